/- Lists that calls made between two sizes of the memory; keeping them. -/
import Derived.Test.YtcgdmonejogbaaaTW
import Derived.Test.YtcgdmonejogbaaaKC
namespace Go.Proofs.Ytcgdmonejogbaaa
open Go.RowKit Go.Sort
open Go
def Rng (a z i : Nat) : Prop := a ≤ i ∧ i < z
theorem own_same {w w' : World} {B e sz n : Nat} {v : Value} {xs : List Value} (h : w.ownsRow B e sz v n xs) (hs : ∀ g, v.ownBlock = some g → w'.heap[g]? = w.heap[g]?) : w'.ownsRow B e sz v n xs := by
  obtain ⟨h0, h1 | ⟨g, c, cur, a1, a2, a3, a4⟩⟩ := h
  · exact ⟨h0, Or.inl h1⟩
  · refine ⟨h0, Or.inr ⟨g, c, cur, a1, a2, ?_, a4⟩⟩
    rw [hs g (by rw [a1]; rfl)]
    exact a3
/-- A list of lists, its blocks between a and b. -/
structure LB (w : World) (a b : Nat) (p : Option Addr) (F : List (List Int)) (c : Nat) (rv : Nat → Value) : Prop where
  fb : FB w a (.slice p F.length c) F rv
  sp : ∀ x, p = some x → x.block < b
  row : ∀ v j, v < F.length → (rv v).ownBlock = some j → j < b
theorem LB.of {w : World} {a c : Nat} {p : Option Addr} {F : List (List Int)} {rv : Nat → Value} (h : FB w a (.slice p F.length c) F rv) : LB w a w.heap.size p F c rv :=
  ⟨h, fun x hx => by subst hx; exact (World.ownsRow.lt h.lst x.block rfl).2, fun v j hv hj => (World.ownsRow.lt (h.own v hv) j hj).2⟩
theorem LB.later {w w' : World} {a b c : Nat} {p : Option Addr} {F : List (List Int)} {rv : Nat → Value} (h : LB w a b p F c rv) (hb : Below w.heap.size w w') : LB w' a b p F c rv := ⟨h.fb.later hb, h.sp, h.row⟩
theorem LB.same {w w' : World} {a b c s z : Nat} {p : Option Addr} {F : List (List Int)} {rv : Nat → Value} (h : LB w a b p F c rv) (hs : ∀ i, Rng s z i → w'.heap[i]? = w.heap[i]?) (h1 : s ≤ a) (h2 : b ≤ z) : LB w' a b p F c rv := by
  refine ⟨⟨own_same h.fb.lst fun g hg => hs g ?_, h.fb.uniq, fun v hv => own_same (h.fb.own v hv) fun g hg => hs g ?_⟩, h.sp, h.row⟩
  · have := (World.ownsRow.lt h.fb.lst g hg).1
    have h3 : g < b := by
      cases p with
      | none => simp [Value.ownBlock] at hg
      | some x => have := h.sp x rfl; have e : x.block = g := by simpa [Value.ownBlock] using hg
                  omega
    exact ⟨by omega, by omega⟩
  · have := (World.ownsRow.lt (h.fb.own v hv) g hg).1
    have := h.row v g hv hg
    exact ⟨by omega, by omega⟩
theorem LB.has {w : World} {a b c : Nat} {p : Option Addr} {F : List (List Int)} {rv : Nat → Value} (h : LB w a b p F c rv) (hl : ∀ v, v < F.length → (lat F v).length ≤ 20000) : RHas w p F := h.fb.has fun v hv => by have := hl v hv; unfold maxLen; omega
theorem rows_lb {w : World} {B g n : Nat} {rv : Nat → Value} {F : List (List Int)} (h : Rows w B g n rv (fun v => lat F v)) (hn : F.length = n) : LB w B w.heap.size (some ⟨g, 0, none⟩) F n rv := LB.of ⟨by rw [hn]; exact h.1, by rw [hn]; exact h.2.1, by rw [hn]; exact h.2.2⟩
theorem LB.nil (w : World) (a b : Nat) : LB w a b none [] 0 (fun _ => .slice none 0 0) := ⟨FB.nil _ _, fun x hx => by simp at hx, fun v j hv => by simp at hv⟩
/-- A bag, whatever it holds. -/
def BagE (w : World) (B k : Nat) : Prop := ∃ lv n rv L sz, Bag w B k lv n rv L sz
theorem BagE.start {w x : World} {B k s z : Nat} (h : BagE w B k) (hb : Below w.heap.size w x) (hs : w.heap.size ≤ s) : KBag (Rng s z) (Rng s z) x B k := by
  obtain ⟨lv, n, rv, L, sz, b⟩ := h
  refine ⟨lv, n, rv, L, sz, b.later hb, fun g hg hN => ?_, fun u g hu hg hM => ?_⟩
  · have := (World.ownsRow.lt b.lst g hg).2
    have := hN.1
    omega
  · have := (World.ownsRow.lt (b.own u hu) g hg).2
    have := hM.1
    omega
theorem KBag.any {N M : Nat → Prop} {w : World} {B k : Nat} (h : KBag N M w B k) : BagE w B k := by
  obtain ⟨lv, n, rv, L, sz, b, _⟩ := h
  exact ⟨lv, n, rv, L, sz, b⟩
theorem BagE.k {w : World} {B k : Nat} (h : BagE w B k) : B ≤ k ∧ k < w.heap.size := by
  obtain ⟨lv, n, rv, L, sz, b⟩ := h
  exact ⟨b.kB, (World.ownsRow.lt b.box k rfl).2⟩
/-- What keeping leaves: all between s and z, and all below B. -/
structure KeptS (s z B k : Nat) (M : Nat → Prop) (V V' : World) : Prop where
  bag : KBag (Rng s z) M V' B k
  below : Below B V V'
  same : ∀ i, Rng s z i → V'.heap[i]? = V.heap[i]?
  size : V.heap.size ≤ V'.heap.size
theorem KPost.keptS {s z B k : Nat} {M : Nat → Prop} {V V' : World} (h : KPost (Rng s z) M V B k V') (hk : ¬ Rng s z k) : KeptS s z B k M V V' := ⟨h.1, h.2.1, fun i hi => h.2.2.2 i hi fun e => hk (by rw [← e]; exact hi), h.2.1.size⟩
theorem KeptS.trans {s z B k : Nat} {M M' : Nat → Prop} {V V' V'' : World} (h : KeptS s z B k M V V') (h' : KeptS s z B k M' V' V'') : KeptS s z B k M' V V'' := ⟨h'.bag, h.below.trans h'.below, fun i hi => (h'.same i hi).trans (h.same i hi), Nat.le_trans h.size h'.size⟩
/-- All lists of a list are kept. -/
theorem keepall_rng (s z a b B k : Nat) (p : Option Addr) (F : List (List Int)) (c : Nat) (rv : Nat → Value) (V : World) (hbag : KBag (Rng s z) (Rng a z) V B k) (hl : LB V a b p F c rv) (hlen : ∀ v, v < F.length → (lat F v).length ≤ 20000) (hF : F.length ≤ 100000) (h1 : s ≤ a) (h3 : b ≤ z) (hab : a ≤ b) (hz : z ≤ V.heap.size) (hB : B ≤ s) (hk : k < s) : Calls Try.prog 20 #[.pointer (some ⟨k, 0, none⟩), .slice p F.length c] V fun e w' => e = .returned (.tuple #[]) ∧ KeptS s z B k (Rng b z) V w' := by
  have hkr : ¬ Rng s z k := fun h => by have := h.1; omega
  refine (keepall20 (N := Rng s z) (M := Rng b z) B k a p F c rv V (hbag.weak ?_) (by omega) (by omega) hl.fb hlen hF ?_ (fun i hi => by have := hi.2; omega) hkr ?_).mono fun e w' ⟨he, hp⟩ => ⟨he, hp.keptS hkr⟩
  · rintro i (h | ⟨v, _, hv, hj⟩)
    · exact ⟨by have := h.1; omega, h.2⟩
    · have := (World.ownsRow.lt (hl.fb.own v hv) i hj).1
      have := hl.row v i hv hj
      exact ⟨by omega, by omega⟩
  · intro x hx
    subst hx
    have := (World.ownsRow.lt hl.fb.lst x.block rfl).1
    have := hl.sp x rfl
    exact ⟨by omega, by omega⟩
  · intro v j hv hj hM
    have := hl.row v j hv hj
    have := hM.1
    omega
/-- A list is kept. -/
theorem keepone_rng (s z a b B k : Nat) (p : Option Addr) (L : List Int) (c : Nat) (V : World) (hbag : KBag (Rng s z) (Rng a z) V B k) (ho : IOwns V a (.slice p L.length c) L) (hlt : ∀ j, (Value.slice p L.length c).ownBlock = some j → j < b) (hlen : L.length ≤ 20000) (h1 : s ≤ a) (h3 : b ≤ z) (hab : a ≤ b) (hz : z ≤ V.heap.size) (hB : B ≤ s) (hk : k < s) : Calls Try.prog 21 #[.pointer (some ⟨k, 0, none⟩), .slice (some ⟨V.heap.size, 0, none⟩) 1 1] (V.alloc (.cells #[.slice p L.length c] 44)) fun e w' => e = .returned (.tuple #[]) ∧ KeptS s z B k (Rng b z) V w' := by
  have hkr : ¬ Rng s z k := fun h => by have := h.1; omega
  obtain ⟨V1, hV⟩ : ∃ V1, V1 = V.alloc (.cells #[.slice p L.length c] 44) := ⟨_, rfl⟩
  have hb : Below V.heap.size V V1 := by rw [hV]; go_grown
  have ho1 := ho.later hb
  have harg : V1.ownsRow V.heap.size 44 1 (.slice (some ⟨V.heap.size, 0, none⟩) 1 1) 1 ((List.range 1).map fun _ => Value.slice p L.length c) := by
    rw [hV]
    exact ⟨rfl, Or.inr ⟨V.heap.size, 1, _, rfl, Nat.le_refl _, heap_alloc_new V _, Nat.le_refl _, by unfold maxLen; omega, rfl, rfl⟩⟩
  rw [← hV]
  obtain ⟨lv0, n0, rv0, L0, sz0, hb0, hn0, hm0⟩ := hbag
  have hblk : ∀ j, (Value.slice p L.length c).ownBlock = some j → Rng a z j ∧ j < b := fun j hj => by
    have := (World.ownsRow.lt ho j hj).1
    have := hlt j hj
    exact ⟨⟨by omega, by omega⟩, by omega⟩
  refine (keep22 (N := Rng s z) (M := Rng b z) B k V.heap.size 1 V.heap.size (fun _ => .slice p L.length c) (fun _ => L) V1 (hb0.later hb) (by have := hb.size; omega) (by omega) (by omega) harg ?_ (fun j _ => ho1.base (by omega)) (fun j _ => hlen) (fun i j _ hi hj _ _ => by omega) ?_ hn0 ?_ ?_ ?_).mono fun e w' ⟨he, hp⟩ => ⟨he, ?_⟩
  · intro e
    have := (World.ownsRow.lt hb0.lst _ e).2
    omega
  · intro j u i _ hu hi hr
    exact hm0 u i hu hr (hblk i hi).1
  · intro i hi
    have := hi.2
    have := hb.size
    omega
  · intro u i hu hi hM
    exact hm0 u i hu hi ⟨by have := hM.1; omega, hM.2⟩
  · intro j i _ hi hM
    have := (hblk i hi).2
    have := hM.1
    omega
  · have q := hp.keptS hkr
    exact ⟨q.bag, (hb.mono (by omega)).trans q.below, fun i hi => (q.same i hi).trans (hb.block i (by have := hi.2; omega)), Nat.le_trans hb.size q.size⟩
end Go.Proofs.Ytcgdmonejogbaaa
