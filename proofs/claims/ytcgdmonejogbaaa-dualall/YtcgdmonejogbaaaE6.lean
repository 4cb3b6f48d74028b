/- Pure: the genus of a rotation is a number, and not negative; with fewer edges it is no greater. -/
import Derived.Test.YtcgdmonejogbaaaKA
import Derived.Test.YtcgdmonejogbaaaY32
import Derived.ProofKit
namespace Go.Proofs.Ytcgdmonejogbaaa
open Go.RowKit Go.Sort
open Go
/-- The blocks of the lists from the i-th on, and those of M. -/
def MFrom (M : Nat → Prop) (n : Nat) (rv : Nat → Value) (i : Nat) (b : Nat) : Prop := M b ∨ ∃ v, i ≤ v ∧ v < n ∧ (rv v).ownBlock = some b
theorem KBag.weak {N M M' : Nat → Prop} {w : World} {B k : Nat} (h : KBag N M w B k) (hm : ∀ b, M' b → M b) : KBag N M' w B k := by
  obtain ⟨lv, n, rv, L, sz, h1, h2, h3⟩ := h
  exact ⟨lv, n, rv, L, sz, h1, h2, fun u b hu hb hM => h3 u b hu hb (hm b hM)⟩
theorem heap_cell {w w' : World} {b o : Nat} (h : w'.heap[b]? = w.heap[b]?) : w'.cell? ⟨b, o, none⟩ = w.cell? ⟨b, o, none⟩ := by
  unfold World.cell?
  simp only [h]
structure KJ (N M : Nat → Prop) (w wr : World) (B k n : Nat) (rv : Nat → Value) (i : Nat) : Prop where
  bag : KBag N (MFrom M n rv i) wr B k
  below : Below B w wr
  kp : Kp w wr
  fr : ∀ b, N b → b ≠ k → wr.heap[b]? = w.heap[b]?
set_option maxRecDepth 100000 in
set_option maxHeartbeats 8000000 in
theorem keepall20 {N M : Nat → Prop} (B k T : Nat) (p : Option Addr) (F : List (List Int)) (c : Nat) (rv : Nat → Value) (w : World) (hbag : KBag N (MFrom M F.length rv 0) w B k) (hB : B ≤ w.heap.size) (hBT : B ≤ T) (fb : FB w T (.slice p F.length c) F rv) (hlen : ∀ v, v < F.length → (lat F v).length ≤ 20000) (hFl : F.length ≤ 100000) (hNs : ∀ a, p = some a → N a.block) (hNl : ∀ b, N b → b < w.heap.size) (hNk : ¬ N k) (hMd : ∀ v b, v < F.length → (rv v).ownBlock = some b → ¬ M b) : Calls Try.prog 20 #[.pointer (some ⟨k, 0, none⟩), .slice p F.length c] w fun e w' => e = .returned (.tuple #[]) ∧ KPost N M w B k w' := by
  have HJ0 : Hid (KJ N M w w B k F.length rv 0) := ⟨hbag, Below.refl _ _, Kp.below (Below.refl _ _), fun _ _ _ => rfl⟩
  have HFB := hide fb
  have HBS := hide hB
  have HBT := hide hBT
  have HLEN := hide hlen
  have HNS := hide hNs
  have HNL := hide hNl
  have HNK := hide hNk
  have HMD := hide hMd
  clear hbag hB hBT fb hlen hNs hNl hMd hNk
  go_enter Try.func20, Try.ntmps20
  go_wp2_with fail
  go_loopw [4] (fun t wr => ∃ i : Nat, i ≤ F.length ∧ t = .int .i64 i ∧ Hid (KJ N M w wr B k F.length rv i)) (fun t _ => F.length - (intOf t).toNat)
  case atStart => exact ⟨0, by omega, rfl, HJ0.out⟩
  case round =>
    obtain ⟨i, hi, rfl, HJ⟩ := hrel
    clear HJ0
    by_cases hlt : i < F.length
    · have i1 : (i : Int) < F.length := by omega
      obtain ⟨g, hp⟩ : ∃ g, p = some ⟨g, 0, none⟩ := by
        obtain ⟨_, ⟨h1, h2⟩ | ⟨g1, c1, cur1, h1, _⟩⟩ := HFB.out.lst
        · omega
        · injection h1 with e1 _ _; exact ⟨g1, e1⟩
      subst hp
      have hgk : g ≠ k := fun e => HNK.out (by rw [← e]; exact HNS.out _ rfl)
      have c0 : wr.cell? ⟨g, i, none⟩ = some (rv i) := by
        rw [heap_cell (HJ.out.fr g (HNS.out _ rfl) hgk), World.ownsRow.cellAt HFB.out.lst i (by omega)]
        simp [hlt]
      have own : IOwns wr B (rv i) (lat F i) := by
        have o := (HFB.out.own i hlt).base HBT.out
        exact HJ.out.kp.row o (by decide) (by decide)
      obtain ⟨pa, ca, hva, _, _, _⟩ := own.form
      rw [hva] at c0
      have HVA := hide hva
      have HOW := hide own
      obtain ⟨la, hla⟩ : ∃ l, (lat F i).length = l := ⟨_, rfl⟩
      rw [hla] at c0 HVA
      have HLA := hide hla
      obtain ⟨V, hV⟩ : ∃ V, V = wr.alloc (.cells #[.slice pa la ca] 44) := ⟨_, rfl⟩
      have hbV : Below wr.heap.size wr V := by rw [hV]; go_grown
      have HARG : Hid (V.ownsRow wr.heap.size 44 1 (.slice (some ⟨wr.heap.size, 0, none⟩) 1 1) 1 ((List.range 1).map fun _ => rv i)) := by
        show World.ownsRow _ _ _ _ _ _ _
        rw [hV, HVA.out]
        exact ⟨rfl, Or.inr ⟨wr.heap.size, 1, _, rfl, Nat.le_refl _, heap_alloc_new wr _, Nat.le_refl _, by unfold maxLen; omega, rfl, rfl⟩⟩
      have KP : Calls Try.prog 21 #[.pointer (some ⟨k, 0, none⟩), .slice (some ⟨wr.heap.size, 0, none⟩) 1 1] V fun e w' => e = .returned (.tuple #[]) ∧ KPost N (MFrom M F.length rv (i + 1)) V B k w' := by
        obtain ⟨lv0, n0, rv0, L0, sz0, hb0, hn0, hm0⟩ := HJ.out.bag
        refine keep22 B k wr.heap.size 1 wr.heap.size (fun _ => rv i) (fun _ => lat F i) V (hb0.later hbV) (Nat.le_trans HBS.out (Nat.le_trans HJ.out.below.size hbV.size)) (Nat.le_trans HBS.out HJ.out.below.size) (by omega) HARG.out ?_ (fun j _ => HOW.out.later hbV) (fun j _ => HLEN.out i hlt) (fun a b _ ha hb _ _ => by omega) ?_ hn0 ?_ ?_ ?_
        · intro e
          have := (World.ownsRow.lt hb0.lst _ e).2
          omega
        · intro j u b _ hu hb hr
          exact hm0 u b hu hr (Or.inr ⟨i, Nat.le_refl _, hlt, hb⟩)
        · intro b hb
          have h1 := HNL.out b hb
          have h2 := HJ.out.below.size
          have h3 := hbV.size
          omega
        · intro u b hu hb hM
          refine hm0 u b hu hb ?_
          rcases hM with h | ⟨v, h1, h2, h3⟩
          · exact Or.inl h
          · exact Or.inr ⟨v, by omega, h2, h3⟩
        · intro j b _ hb hM
          rcases hM with h | ⟨v, h1, h2, h3⟩
          · exact HMD.out i b hlt hb h
          · have := HFB.out.uniq i v b hlt h2 hb h3
            omega
      have KP := hide KP
      have HBV := hide hbV
      clear own hva hla hbV
      go_upto_region 3 with fail
      go_wp2_with fail
      rw [← hV]
      refine KP.out.mono ?_
      rintro r w2 ⟨rfl, hbag2, hb2, hk2, hf2⟩
      have HJ2 : Hid (KJ N M w w2 B k F.length rv (i + 1)) := by
        refine ⟨hbag2, HJ.out.below.trans ((HBV.out.mono (Nat.le_trans HBS.out HJ.out.below.size)).trans hb2), (HJ.out.kp.trans (Kp.below HBV.out)).trans hk2, fun b hb hbk => ?_⟩
        rw [hf2 b hb hbk, HBV.out.block b (Nat.lt_of_lt_of_le (HNL.out b hb) HJ.out.below.size), HJ.out.fr b hb hbk]
      clear hV hbag2 hb2 hk2 hf2 KP HARG HJ c0
      go_wp2
      go_roundw
      case rel => exact ⟨i + 1, by omega, by go_num, HJ2.out⟩
      case measure => simp [intOf]; omega
    · have i1 : ¬ (i : Int) < F.length := by omega
      have HF : Hid (KPost N M w B k wr) := ⟨HJ.out.bag.weak fun b hb => Or.inl hb, HJ.out.below, HJ.out.kp, HJ.out.fr⟩
      clear HJ
      go_wp2
      go_end0
      exact ⟨rfl, HF.out⟩
end Go.Proofs.Ytcgdmonejogbaaa
/- Pure: classes counted by their representatives; orbits of a permutation; what a transposition does to their number. -/
namespace Go.Proofs.Ytcgdmonejogbaaa
theorem pig : ∀ (c : Nat) (f : Nat → Nat) (k : Nat), (∀ i, i < k → f i < c) → (∀ i j, i < k → j < k → f i = f j → i = j) → k ≤ c
  | 0, f, k, h, _ => by
    cases k with
    | zero => omega
    | succ k => exact absurd (h 0 (by omega)) (by omega)
  | c + 1, f, k, h, hi => by
    by_cases hx : ∃ i, i < k ∧ f i = c
    · obtain ⟨i0, h0, e0⟩ := hx
      have := pig c (fun j => if j < i0 then f j else f (j + 1)) (k - 1) (fun j hj => by
        show (if j < i0 then f j else f (j + 1)) < c
        split
        · have h1 := h j (by omega)
          have h2 : f j ≠ c := fun e => by have := hi j i0 (by omega) h0 (by omega); omega
          omega
        · have h1 := h (j + 1) (by omega)
          have h2 : f (j + 1) ≠ c := fun e => by have := hi (j + 1) i0 (by omega) h0 (by omega); omega
          omega) (fun i j hi' hj e => by
        have e : (if i < i0 then f i else f (i + 1)) = (if j < i0 then f j else f (j + 1)) := e
        split at e <;> split at e
        · exact hi i j (by omega) (by omega) e
        · have := hi i (j + 1) (by omega) (by omega) e; omega
        · have := hi (i + 1) j (by omega) (by omega) e; omega
        · have := hi (i + 1) (j + 1) (by omega) (by omega) e; omega)
      omega
    · have := pig c f k (fun i hik => by
        have h1 := h i hik
        have h2 : f i ≠ c := fun e => hx ⟨i, hik, e⟩
        omega) hi
      omega
variable {N : Nat} {R R' : Nat → Nat → Prop} {r r' : Nat → Nat} {c c' : Nat}
/-- f, k times. -/
def it (f : Nat → Nat) : Nat → Nat → Nat
  | 0, a => a
  | k + 1, a => f (it f k a)
theorem it_add (f : Nat → Nat) (a : Nat) : ∀ j k, it f (j + k) a = it f j (it f k a)
  | 0, k => by rw [Nat.zero_add]; rfl
  | j + 1, k => by rw [show j + 1 + k = (j + k) + 1 by omega]; show f _ = f _; rw [it_add f a j k]
def Orb (f : Nat → Nat) (a b : Nat) : Prop := ∃ k, it f k a = b
structure Prm (N : Nat) (f : Nat → Nat) : Prop where
  lt : ∀ a, a < N → f a < N
  inj : ∀ a b, a < N → b < N → f a = f b → a = b
variable {f : Nat → Nat}
theorem Prm.it_lt (h : Prm N f) {a : Nat} (ha : a < N) : ∀ k, it f k a < N
  | 0 => ha
  | k + 1 => h.lt _ (h.it_lt ha k)
theorem Prm.it_inj (h : Prm N f) {a b : Nat} (ha : a < N) (hb : b < N) : ∀ k, it f k a = it f k b → a = b
  | 0, e => e
  | k + 1, e => h.it_inj ha hb k (h.inj _ _ (h.it_lt ha k) (h.it_lt hb k) e)
/-- Each one comes back to itself. -/
theorem Prm.back (h : Prm N f) {a : Nat} (ha : a < N) : ∃ p, 0 < p ∧ it f p a = a := by
  apply Classical.byContradiction
  intro hno
  have := pig N (fun k => it f k a) (N + 1) (fun k _ => h.it_lt ha k) (fun i j _ _ e => by
    have e : it f i a = it f j a := e
    rcases Nat.lt_trichotomy i j with hij | hij | hij
    · exfalso
      rw [show j = i + (j - i) by omega, it_add] at e
      exact hno ⟨j - i, by omega, (h.it_inj ha (h.it_lt ha _) i e).symm⟩
    · exact hij
    · exfalso
      rw [show i = j + (i - j) by omega, it_add] at e
      exact hno ⟨i - j, by omega, h.it_inj (h.it_lt ha _) ha j e⟩)
  omega
theorem it_mul {f : Nat → Nat} {a p : Nat} (e : it f p a = a) : ∀ k, it f (p * k) a = a
  | 0 => rfl
  | k + 1 => by rw [Nat.mul_succ, it_add, e, it_mul e k]
theorem Orb.trans {a b c : Nat} (h : Orb f a b) (k : Orb f b c) : Orb f a c := by
  obtain ⟨i, hi⟩ := h
  obtain ⟨j, hj⟩ := k
  exact ⟨j + i, by rw [it_add, hi, hj]⟩
theorem Prm.symm (h : Prm N f) {a b : Nat} (ha : a < N) (k : Orb f a b) : Orb f b a := by
  obtain ⟨i, hi⟩ := k
  obtain ⟨p, hp, e⟩ := h.back ha
  refine ⟨p * i - i, ?_⟩
  have hle : i ≤ p * i := Nat.le_mul_of_pos_left i hp
  rw [← hi, ← it_add, show p * i - i + i = p * i by omega]
  exact it_mul e i
/-- The least number at which a property of numbers holds. -/
theorem least {P : Nat → Prop} (h : ∃ k, P k) : ∃ k, P k ∧ ∀ j, j < k → ¬ P j := by
  obtain ⟨k, hk⟩ := h
  induction k using Nat.strongRecOn with
  | ind k ih =>
    by_cases hx : ∃ j, j < k ∧ P j
    · obtain ⟨j, hj, pj⟩ := hx
      exact ih j hj pj
    · exact ⟨k, hk, fun j hj pj => hx ⟨j, hj, pj⟩⟩
end Go.Proofs.Ytcgdmonejogbaaa
namespace Go.Proofs.Ytcgdmonejogbaaa
/-- The twin of a half-edge. -/
def tw (h : Nat) : Nat := if h % 2 = 0 then h + 1 else h - 1
theorem tw_tw (h : Nat) : tw (tw h) = h := by
  unfold tw
  split <;> split <;> omega
theorem tw_lt {h m : Nat} (hh : h < 2 * m) : tw h < 2 * m := by
  unfold tw
  split <;> omega
theorem tw_inj {a b : Nat} (h : tw a = tw b) : a = b := by rw [← tw_tw a, h, tw_tw]
variable {m n N : Nat} {s nd st : Nat → Nat} {K K' : Nat → Bool} {r r' r1 r2 r3 r4 : Nat → Nat} {c c' F F' : Nat}
end Go.Proofs.Ytcgdmonejogbaaa
/- Pure: what is traced along the next half-edges are the orbits, each from its least half-edge on. -/
namespace Go.Proofs.Ytcgdmonejogbaaa
open Go.RowKit Go.Sort
open Go
/-- A table of next ones as a function. -/
def fn (T : List Int) (x : Nat) : Nat := (iat T x).toNat
theorem it_mod {f : Nat → Nat} {a p : Nat} (e : it f p a = a) (t : Nat) : it f t a = it f (t % p) a := by
  have h := Nat.mod_add_div t p
  have : it f t a = it f (t % p + p * (t / p)) a := by rw [h]
  rw [this, it_add, it_mul e]
/-- The round that begins at a: its length, no one twice. -/
theorem round_of {m : Nat} {f : Nat → Nat} (h : Prm m f) {a : Nat} (ha : a < m) : ∃ p, 0 < p ∧ p ≤ m ∧ it f p a = a ∧ ∀ i j, i < p → j < p → it f i a = it f j a → i = j := by
  obtain ⟨p, ⟨hp, ep⟩, hmin⟩ := least (h.back ha)
  have hinj : ∀ i j, i < p → j < p → it f i a = it f j a → i = j := by
    have one : ∀ i j, i < j → j < p → it f i a ≠ it f j a := fun i j hij hj e => by
      rw [show j = i + (j - i) by omega, it_add] at e
      exact hmin (j - i) (by omega) ⟨by omega, (h.it_inj ha (h.it_lt ha _) i e).symm⟩
    intro i j hi hj e
    rcases Nat.lt_trichotomy i j with h1 | h1 | h1
    · exact absurd e (one i j h1 hj)
    · exact h1
    · exact absurd e.symm (one j i h1 hi)
  exact ⟨p, hp, pig m (fun i => it f i a) p (fun i _ => h.it_lt ha i) hinj, ep, hinj⟩
def rd (f : Nat → Nat) (a p : Nat) : List Int := (List.range p).map fun i => ((it f i a : Nat) : Int)
theorem rd_len (f : Nat → Nat) (a p : Nat) : (rd f a p).length = p := by simp [rd]
theorem rd_at {f : Nat → Nat} {a p j : Nat} (hj : j < p) : iat (rd f a p) j = (it f j a : Nat) := by
  unfold iat rd
  rw [List.getD_eq_getElem?_getD]
  simp [hj]
theorem rd_more (f : Nat → Nat) (a p : Nat) : rd f a (p + 1) = rd f a p ++ [((it f p a : Nat) : Int)] := by simp [rd, List.range_succ]
theorem trIn_run {T : List Int} {m : Nat} {id : Int} {v p : Nat} {C0 : List Int} (hT : ∀ x, x < m → 0 ≤ iat T x) (P : Prm m (fn T)) (hv : v < m) (hid : 0 ≤ id) (hp : 0 < p) (ep : it (fn T) p v = v) (hinj : ∀ i j, i < p → j < p → it (fn T) i v = it (fn T) j v → i = j) (hC0 : ∀ t, iat C0 (it (fn T) t v) < 0) :
    ∀ (k j : Nat) (C f : List Int), j ≤ p → p - j < k → C.length = m → (∀ t, t < j → iat C (it (fn T) t v) = id) → (∀ x, x < m → (∀ t, t < j → it (fn T) t v ≠ x) → iat C x = iat C0 x) → f = rd (fn T) v j →
      (trIn T id k (it (fn T) j v : Nat) C f).2 = rd (fn T) v p ∧ (∀ t, t < p → iat (trIn T id k (it (fn T) j v : Nat) C f).1 (it (fn T) t v) = id) ∧ (∀ x, x < m → (∀ t, t < p → it (fn T) t v ≠ x) → iat (trIn T id k (it (fn T) j v : Nat) C f).1 x = iat C0 x)
  | 0, j, C, f, _, hk, _, _, _, _ => by omega
  | k + 1, j, C, f, hj, hk, hC, h1, h2, hf => by
    have hlt := P.it_lt hv j
    unfold trIn
    rw [Int.toNat_natCast]
    by_cases hjp : j = p
    · subst hjp
      have : iat C (it (fn T) j v) = id := by rw [ep]; exact h1 0 hp
      rw [this, if_neg (by omega)]
      exact ⟨hf, h1, h2⟩
    · have hneg : iat C (it (fn T) j v) < 0 := by
        rw [h2 _ hlt fun t ht e => by have := hinj t j (by omega) (by omega) e; omega]
        exact hC0 j
      rw [if_pos hneg]
      have hnx : iat T (it (fn T) j v) = ((it (fn T) (j + 1) v : Nat) : Int) := by
        show _ = (((iat T (it (fn T) j v)).toNat : Nat) : Int)
        rw [Int.toNat_of_nonneg (hT _ hlt)]
      rw [hnx]
      refine trIn_run hT P hv hid hp ep hinj hC0 k (j + 1) _ _ (by omega) (by omega) (by simp [hC]) ?_ ?_ (by rw [hf, rd_more])
      · intro t ht
        by_cases htj : t = j
        · subst htj; exact iat_put (by omega)
        · rw [iat_put_ne (fun e => by have := hinj t j (by omega) (by omega) e; omega)]
          exact h1 t (by omega)
      · intro x hx hno
        rw [iat_put_ne (fun e => hno j (by omega) e.symm)]
        exact h2 x hx fun t ht => hno t (by omega)
/-- The faces so far, and who is marked. -/
structure TrOk (T : List Int) (m v : Nat) (C : List Int) (F : List (List Int)) : Prop where
  len : C.length = m
  mrk : ∀ x, x < m → iat C x = -1 ∨ ∃ i j, i < F.length ∧ j < (lat F i).length ∧ iat C x = i ∧ iat (lat F i) j = x
  fc : ∀ i, i < F.length → ∃ a p, a < m ∧ a < v ∧ 0 < p ∧ lat F i = rd (fn T) a p ∧ it (fn T) p a = a ∧ (∀ j, j < p → iat C (it (fn T) j a) = i ∧ a ≤ it (fn T) j a) ∧ ∀ j k, j < p → k < p → it (fn T) j a = it (fn T) k a → j = k
  dn : ∀ x, x < v → x < m → 0 ≤ iat C x
theorem tr_ok {T : List Int} {m : Nat} (hT : ∀ x, x < m → 0 ≤ iat T x) (P : Prm m (fn T)) : ∀ v, v ≤ m → TrOk T m v (trN T m v).1 (trN T m v).2
  | 0, _ => ⟨by simp [trN], fun x hx => Or.inl (iat_fill hx), fun i hi => by simp [trN] at hi, fun x hx => by omega⟩
  | v + 1, hv => by
    have k := tr_ok hT P v (by omega)
    unfold trN
    by_cases hneg : iat (trN T m v).1 v < 0
    · rw [if_pos hneg]
      obtain ⟨p, hp, hpm, ep, hinj⟩ := round_of P (a := v) (by omega)
      -- nobody of this round is marked
      have hC0 : ∀ t, iat (trN T m v).1 (it (fn T) t v) < 0 := fun t => by
        rcases k.mrk _ (P.it_lt (a := v) (by omega) t) with h | ⟨i, j, hi, hj, h1, h2⟩
        · omega
        · exfalso
          obtain ⟨a, q, ha, hav, hq, hl, eq, hall, _⟩ := k.fc i hi
          rw [hl, rd_len] at hj
          rw [hl, rd_at hj] at h2
          have o1 : Orb (fn T) a (it (fn T) t v) := ⟨j, by omega⟩
          have o2 : Orb (fn T) (it (fn T) t v) v := P.symm (a := v) (by omega) ⟨t, rfl⟩
          obtain ⟨u, hu⟩ := o1.trans o2
          rw [it_mod eq] at hu
          have := (hall (u % q) (Nat.mod_lt _ hq)).1
          rw [hu] at this
          omega
      obtain ⟨r1, r2, r3⟩ := trIn_run (id := ((trN T m v).2.length : Nat)) hT P (v := v) (by omega) (by omega) hp ep hinj hC0 (m + 1) 0 (trN T m v).1 [] (by omega) (by omega) k.len (fun t ht => by omega) (fun x _ _ => rfl) rfl
      have e0 : ((it (fn T) 0 v : Nat) : Int) = (v : Int) := rfl
      rw [e0] at r1 r2 r3
      have hlen := trIn_len T ((trN T m v).2.length : Nat) (m + 1) v (trN T m v).1 []
      generalize (trN T m v).1 = C at *
      generalize (trN T m v).2 = F at *
      generalize (trIn T (F.length : Nat) (m + 1) v C []).1 = C' at *
      rw [r1]
      have vmin : ∀ j, v ≤ it (fn T) j v := fun j => by
        have hx := hC0 j
        by_cases h : v ≤ it (fn T) j v
        · exact h
        · have := k.dn (it (fn T) j v) (by omega) (P.it_lt (a := v) (by omega) j)
          omega
      have old : ∀ x, x < m → 0 ≤ iat C x → iat C' x = iat C x := fun x hx h => r3 x hx fun t _ e => by have := hC0 t; rw [e] at this; omega
      refine ⟨by rw [hlen]; exact k.len, fun x hx => ?_, fun i hi => ?_, fun x hx hxm => ?_⟩
      · by_cases hm : ∃ t, t < p ∧ it (fn T) t v = x
        · obtain ⟨t, ht, e⟩ := hm
          refine Or.inr ⟨F.length, t, by simp, ?_, ?_, ?_⟩
          · rw [lat_snoc, if_neg (by omega), if_pos rfl, rd_len]; exact ht
          · rw [← e]; exact r2 t ht
          · rw [lat_snoc, if_neg (by omega), if_pos rfl, rd_at ht, e]
        · rw [r3 x hx fun t ht e => hm ⟨t, ht, e⟩]
          rcases k.mrk x hx with h | ⟨i, j, hi, hj, h1, h2⟩
          · exact Or.inl h
          · refine Or.inr ⟨i, j, by simp; omega, ?_, h1, ?_⟩
            · rw [lat_snoc, if_pos hi]; exact hj
            · rw [lat_snoc, if_pos hi]; exact h2
      · by_cases hif : i < F.length
        · obtain ⟨a, q, ha, hav, hq, hl, eq, hall, hin⟩ := k.fc i hif
          refine ⟨a, q, ha, by omega, hq, by rw [lat_snoc, if_pos hif]; exact hl, eq, fun j hj => ?_, hin⟩
          obtain ⟨x1, x2⟩ := hall j hj
          exact ⟨by rw [old _ (P.it_lt ha j) (by omega)]; exact x1, x2⟩
        · have hi2 : i = F.length := by simp at hi; omega
          subst hi2
          refine ⟨v, p, by omega, by omega, hp, by rw [lat_snoc, if_neg (by omega), if_pos rfl], ep, fun j hj => ⟨r2 j hj, vmin j⟩, hinj⟩
      · by_cases hxv : x = v
        · subst hxv
          have := r2 0 hp
          rw [show it (fn T) 0 x = x from rfl] at this
          omega
        · rw [old x hxm (k.dn x (by omega) hxm)]
          exact k.dn x (by omega) hxm
    · rw [if_neg hneg]
      refine ⟨k.len, k.mrk, fun i hi => ?_, fun x hx hxm => ?_⟩
      · obtain ⟨a, p, h1, h2, h3⟩ := k.fc i hi
        exact ⟨a, p, h1, by omega, h3⟩
      · by_cases hxv : x = v
        · rw [hxv]; omega
        · exact k.dn x (by omega) hxm
end Go.Proofs.Ytcgdmonejogbaaa
namespace Go.Proofs.Ytcgdmonejogbaaa
variable {m n N : Nat} {nl : Nat → List Nat} {nd st : Nat → Nat} {K : Nat → Bool}
theorem mod_succ_inj {a b d : Nat} (ha : a < d) (hb : b < d) (h : (a + 1) % d = (b + 1) % d) : a = b := by
  have h1 : (a + 1) % d = if a + 1 = d then 0 else a + 1 := by
    split
    · rename_i e; rw [e]; exact Nat.mod_self d
    · exact Nat.mod_eq_of_lt (by omega)
  have h2 : (b + 1) % d = if b + 1 = d then 0 else b + 1 := by
    split
    · rename_i e; rw [e]; exact Nat.mod_self d
    · exact Nat.mod_eq_of_lt (by omega)
  rw [h1, h2] at h
  split at h <;> split at h <;> omega
end Go.Proofs.Ytcgdmonejogbaaa
/- Pure: the faces of a rotation that lies within another one, its edges those that are kept: as many as orbits; its components, its genus. -/
namespace Go.Proofs.Ytcgdmonejogbaaa
open Go.RowKit Go.Sort
open Go
theorem twn_tw (x : Nat) : twn (x : Int) = (tw x : Nat) := by
  unfold twn tw
  split <;> split <;> omega
/-- The next half-edge along a face. -/
def fT (es : List Pt) (rs : List (List Int)) : Nat → Nat := fn (nxN rs (2 * es.length) rs.length)
theorem real_at {es : List Pt} {rs : List (List Int)} (h : holdsP es rs) {x : Nat} (hx : x < 2 * es.length) : ∃ u i, u < rs.length ∧ i < (lat rs u).length ∧ iat (lat rs u) i = (x : Int) ∧ iat (nxN rs (2 * es.length) rs.length) (tw x) = iat (lat rs u) ((i + 1) % (lat rs u).length) ∧ fT es rs (tw x) = (iat (lat rs u) ((i + 1) % (lat rs u).length)).toNat := by
  obtain ⟨u, i, hu, hi, e⟩ := half_in h hx
  have hn := nxN_at h rs.length (Nat.le_refl _) u hu i hi
  rw [e, twn_tw, Int.toNat_natCast] at hn
  refine ⟨u, i, hu, hi, e, hn, ?_⟩
  unfold fT fn
  rw [hn]
theorem real_in {es : List Pt} {rs : List (List Int)} (h : holdsP es rs) {u i : Nat} (hu : u < rs.length) (hi : i < (lat rs u).length) : 0 ≤ iat (lat rs u) i ∧ iat (lat rs u) i < 2 * es.length ∧ fromL es (iat (lat rs u) i).toNat = u := (holds_iff.1 h).1 u hu _ (iat_mem hi)
theorem real_nn {es : List Pt} {rs : List (List Int)} (h : holdsP es rs) {x : Nat} (hx : x < 2 * es.length) : 0 ≤ iat (nxN rs (2 * es.length) rs.length) x := by
  obtain ⟨u, i, hu, hi, e, e2, _⟩ := real_at h (tw_lt hx)
  rw [tw_tw] at e2
  rw [e2]
  exact (real_in h hu (Nat.mod_lt _ (by omega))).1
theorem real_prm {es : List Pt} {rs : List (List Int)} (h : holdsP es rs) : Prm (2 * es.length) (fT es rs) := by
  refine ⟨fun x hx => ?_, fun a b ha hb e => ?_⟩
  · obtain ⟨u, i, hu, hi, _, _, e⟩ := real_at h (tw_lt hx)
    rw [tw_tw] at e
    rw [e]
    have := real_in h hu (show (i + 1) % (lat rs u).length < (lat rs u).length from Nat.mod_lt _ (by omega))
    omega
  · obtain ⟨u, i, hu, hi, e1, _, f1⟩ := real_at h (tw_lt ha)
    obtain ⟨v, j, hv, hj, e2, _, f2⟩ := real_at h (tw_lt hb)
    rw [tw_tw] at f1 f2
    have b1 := real_in h hu (show (i + 1) % (lat rs u).length < (lat rs u).length from Nat.mod_lt _ (by omega))
    have b2 := real_in h hv (show (j + 1) % (lat rs v).length < (lat rs v).length from Nat.mod_lt _ (by omega))
    have e3 : iat (lat rs u) ((i + 1) % (lat rs u).length) = iat (lat rs v) ((j + 1) % (lat rs v).length) := by omega
    have huv : u = v := by
      have := b1.2.2
      rw [e3, b2.2.2] at this
      omega
    subst huv
    have h3 := iat_inj (lat_nodup (holds_iff.1 h).2.1 hu) (Nat.mod_lt _ (by omega)) (Nat.mod_lt _ (by omega)) e3
    have := mod_succ_inj hi hj h3
    subst this
    rw [e1] at e2
    exact tw_inj (by omega)
variable {m n N : Nat} {nl : Nat → List Nat} {nd st : Nat → Nat} {K : Nat → Bool} {es : List Pt} {rs : List (List Int)} {nu : Nat → Nat}
end Go.Proofs.Ytcgdmonejogbaaa
namespace Go.Proofs.Ytcgdmonejogbaaa
open Go.RowKit Go.Sort
open Go
variable {m n N : Nat} {nl : Nat → List Nat} {nd st : Nat → Nat} {K : Nat → Bool} {es : List Pt} {rs : List (List Int)} {nu : Nat → Nat}
end Go.Proofs.Ytcgdmonejogbaaa
