/- Up a tree: beginnings, and the way round that a half-edge closes. -/
import Derived.Test.YtobkejnlkjieoaaZC02
import Derived.Test.YtobkejnlkjieoaaZC07
import Derived.Test.YtobkejnlkjieoaaZC05
import Derived.Deep.LoopGhost
import Derived.Deep.RegionHeld3
import Derived.Test.YtobkejnlkjieoaaZC06
namespace Go.Proofs.Ytobkejnlkjieoaa
open Go.RowKit Go.Sort
open Go

/-- The node by which one was found. -/
def par (es : List Pt) (st : St) (v : Nat) : Nat := (fromL es (iat st.By v).toNat).toNat
def rtN (es : List Pt) (st : St) : Nat → Nat → Nat
  | 0, v => v
  | k + 1, v => rtN es st k (par es st v)
/-- The node with which a tree begins. -/
def root (es : List Pt) (st : St) (v : Nat) : Nat := rtN es st (iat st.Fa v).toNat v
variable {es : List Pt} {n : Nat} {st : St}
theorem root_par (t : Tree es n st) {v : Nat} (hv : v < n) (h : 0 < iat st.Fa v) : ∃ k : Nat, k < 2 * es.length ∧ iat st.By v = k ∧ toL es k = v ∧ fromL es k = par es st v ∧ par es st v < n ∧ iat st.Fa (par es st v) + 1 = iat st.Fa v ∧ 0 ≤ iat st.Fa (par es st v) ∧ root es st (par es st v) = root es st v := by
  rcases t.back v hv (by omega) with ⟨h0, _⟩ | ⟨k, u, h1, h2, h3, h4, h5, h6, h7⟩
  · omega
  · have hp : par es st v = u := by unfold par; rw [h3, Int.toNat_natCast, h5, Int.toNat_natCast]
    refine ⟨k, h1, h3, h4, by rw [hp]; exact h5, by rw [hp]; exact h2, by rw [hp]; exact h6, by rw [hp]; exact h7, ?_⟩
    unfold root
    rw [show (iat st.Fa v).toNat = (iat st.Fa (par es st v)).toNat + 1 by rw [hp]; omega]
    rfl
theorem root_zero {v : Nat} (h : iat st.Fa v = 0) : root es st v = v := by
  unfold root
  rw [h]
  rfl
/-- The half-edge the other way. -/
def twnW (h : Int) : Int := if h % 2 = 0 then h + 1 else h - 1
/-- The way up from two nodes to where they meet: the half-edges up from the one, and those down to the other, last first. -/
def clo (es : List Pt) (st : St) : Nat → Nat → Nat → List Int → List Int → List Int × List Int
  | 0, _, _, cy, dn => (cy, dn)
  | k + 1, en, sa, cy, dn => if en = sa then (cy, dn) else if iat st.Fa sa ≤ iat st.Fa en then clo es st k (par es st en) sa (cy ++ [twnW (iat st.By en)]) dn else clo es st k en (par es st sa) cy (dn ++ [iat st.By sa])
theorem clo_stop {en : Nat} {cy dn : List Int} : ∀ k, clo es st k en en cy dn = (cy, dn)
  | 0 => rfl
  | k + 1 => by simp [clo]
theorem clo_up {k en sa : Nat} {cy dn : List Int} (hne : en ≠ sa) (h : iat st.Fa sa ≤ iat st.Fa en) : clo es st (k + 1) en sa cy dn = clo es st k (par es st en) sa (cy ++ [twnW (iat st.By en)]) dn := by
  simp [clo, hne, h]
theorem clo_down {k en sa : Nat} {cy dn : List Int} (hne : en ≠ sa) (h : ¬ iat st.Fa sa ≤ iat st.Fa en) : clo es st (k + 1) en sa cy dn = clo es st k en (par es st sa) cy (dn ++ [iat st.By sa]) := by
  simp [clo, hne, h]
/-- Of two that lie under one beginning, and are not one, the farther one has a way up. -/
theorem has_up {a b : Nat} (fa : 0 ≤ iat st.Fa a) (fb : 0 ≤ iat st.Fa b) (hr : root es st a = root es st b) (hne : a ≠ b) (h : iat st.Fa b ≤ iat st.Fa a) : 0 < iat st.Fa a := by
  by_cases h0 : iat st.Fa a = 0
  · exfalso
    apply hne
    have hb0 : iat st.Fa b = 0 := by omega
    rw [root_zero h0, root_zero hb0] at hr
    exact hr
  · omega
theorem twn_in {k m : Nat} (h : k < 2 * m) : ∃ j : Nat, twnW (k : Int) = j ∧ j < 2 * m := by
  unfold twnW
  by_cases h2 : (k : Int) % 2 = 0
  · rw [if_pos h2]; exact ⟨k + 1, by omega, by omega⟩
  · rw [if_neg h2]; exact ⟨k - 1, by omega, by omega⟩
theorem twn_to (es : List Pt) (k : Nat) : toL es (twnW (k : Int)).toNat = fromL es k := by
  unfold twnW
  by_cases h2 : (k : Int) % 2 = 0
  · rw [if_pos h2, show ((k : Int) + 1).toNat = k + 1 by omega]
    unfold toL fromL
    rw [if_neg (by omega), if_pos (by omega), show (k + 1) / 2 = k / 2 by omega]
  · rw [if_neg h2, show ((k : Int) - 1).toNat = k - 1 by omega]
    unfold toL fromL
    rw [if_pos (by omega), if_neg (by omega), show (k - 1) / 2 = k / 2 by omega]
end Go.Proofs.Ytobkejnlkjieoaa

/- What a depth-first tour reaches at the lowest: as a function, the way it is reckoned. -/
namespace Go.Proofs.Ytobkejnlkjieoaa
open Go.RowKit Go.Sort
open Go

/-- The place of each of the first nodes; the others keep what they had. -/
def whN (O : List Int) (n : Nat) (c : Int) : Nat → List Int
  | 0 => List.replicate n c
  | i + 1 => (whN O n c i).set (iat O i).toNat i
theorem whN_len (O : List Int) (n : Nat) (c : Int) : ∀ i, (whN O n c i).length = n
  | 0 => by simp [whN]
  | i + 1 => by simp only [whN, List.length_set]; exact whN_len O n c i
theorem whN_in (O : List Int) (n v : Nat) (c : Int) (hv : v < n) (hc : -1 ≤ c) (hc2 : c ≤ 0) : ∀ i, -1 ≤ iat (whN O n c i) v ∧ iat (whN O n c i) v ≤ i
  | 0 => by simp [whN, iat, hv]; omega
  | i + 1 => by
    have ih := whN_in O n v c hv hc hc2 i
    simp only [whN]
    by_cases e : v = (iat O i).toNat
    · rw [← e, iat_putW (by rw [whN_len]; exact hv)]; omega
    · rw [iat_put_neW e]; omega
/-- One node: by the half-edges that go out of it, the first j of them. -/
def lwRow (es : List Pt) (st : St) (P : List Int) (v : Nat) (L : List Int) : Nat → List Int
  | 0 => L
  | j + 1 =>
    if iat (outL es (2 * es.length) v) j = twnW (iat st.By v) then lwRow es st P v L j
    else (lwRow es st P v L j).set v (min (iat (lwRow es st P v L j) v) (iat P (toL es (iat (outL es (2 * es.length) v) j).toNat).toNat))
/-- One node, and what it hands up. -/
def lwOne (es : List Pt) (st : St) (P : List Int) (L : List Int) (v : Nat) : List Int :=
  if 0 ≤ iat st.By v then (lwRow es st P v L (outL es (2 * es.length) v).length).set (par es st v) (min (iat (lwRow es st P v L (outL es (2 * es.length) v).length) (par es st v)) (iat (lwRow es st P v L (outL es (2 * es.length) v).length) v))
  else lwRow es st P v L (outL es (2 * es.length) v).length
/-- The last k nodes of the order, from its end on. -/
def lwN (es : List Pt) (st : St) (n : Nat) : Nat → List Int
  | 0 => whN st.O n (-1) st.O.length
  | k + 1 => lwOne es st (whN st.O n 0 st.O.length) (lwN es st n k) (iat st.O (st.O.length - 1 - k)).toNat
theorem lwRow_len (es : List Pt) (st : St) (P : List Int) (v : Nat) (L : List Int) : ∀ j, (lwRow es st P v L j).length = L.length
  | 0 => rfl
  | j + 1 => by
    have ih := lwRow_len es st P v L j
    simp only [lwRow]
    split
    · exact ih
    · rw [List.length_set]; exact ih
theorem lwOne_len (es : List Pt) (st : St) (P : List Int) (L : List Int) (v : Nat) : (lwOne es st P L v).length = L.length := by
  unfold lwOne
  split
  · rw [List.length_set]; exact lwRow_len es st P v L _
  · exact lwRow_len es st P v L _
theorem lwN_len (es : List Pt) (st : St) (n : Nat) : ∀ k, (lwN es st n k).length = n
  | 0 => whN_len _ _ _ _
  | k + 1 => by simp only [lwN]; rw [lwOne_len]; exact lwN_len es st n k
end Go.Proofs.Ytobkejnlkjieoaa

/- closed: the way round that a half-edge closes with a tree. -/
namespace Go.Proofs.Ytobkejnlkjieoaa
open Go.RowKit Go.Sort
open Go

theorem nat_xor_oneW (k : Nat) : ((k ^^^ 1 : Nat) : Int) = twnW (k : Int) := by
  have h1 : (k ^^^ 1) / 2 = k / 2 := by rw [Nat.xor_div_two]; simp
  have h2 : (k ^^^ 1) % 2 = (k + 1) % 2 := by have := @Nat.xor_mod_two_eq_one k 1; omega
  unfold twnW
  split <;> omega
theorem xor_oneW (k : Nat) (hk : k < 1000000) : bits .xor .i64 (k : Int) 1 = twnW (k : Int) := by
  have hx : k ^^^ 1 < 2 ^ 20 := Nat.xor_lt_two_pow (by omega) (by omega)
  have h1 : (BitVec.ofInt 64 (k : Int)).toNat = k := by
    rw [BitVec.ofInt_natCast, BitVec.toNat_ofNat]; exact Nat.mod_eq_of_lt (by omega)
  have h2 : (BitVec.ofInt 64 (1 : Int)).toNat = 1 := by decide
  show IntKind.i64.wrap ((BitVec.ofInt 64 (k : Int) ^^^ BitVec.ofInt 64 1).toNat : Int) = _
  rw [BitVec.toNat_xor, h1, h2, IntKind.wrap_i64, ← nat_xor_oneW]
  omega
/-- Two lists of the call's own, in blocks of their own: a number behind the one leaves the other. -/
theorem push2 {w : World} {B : Nat} {v u : Value} {l r : List Int} (o : IOwns w B v l) (o2 : IOwns w B u r) (hd : ∀ i, v.ownBlock = some i → u.ownBlock ≠ some i) (x : Int) (hB : B ≤ w.heap.size) (hl : l.length ≤ 90000) :
    ∃ p1 c1 w', (Builtin.append_ #[32, 32] 32 #[v, .slice (some ⟨w.heap.size, 0, none⟩) 1 1]).run Try.prog (w.alloc (.cells #[.int .i64 x] 3)) = .ok (.slice p1 (l.length + 1) c1) w' ∧ IOwns w' B (.slice p1 (l.length + 1) c1) (l ++ [x]) ∧ IOwns w' B u r ∧ (∀ i, (Value.slice p1 (l.length + 1) c1).ownBlock = some i → u.ownBlock ≠ some i) ∧ Below B w w' := by
  have o' : IOwns (w.alloc (.cells #[.int .i64 x] 3)) B v l := o.later (by go_grown)
  have o2' : IOwns (w.alloc (.cells #[.int .i64 x] 3)) B u r := o2.later (by go_grown)
  obtain ⟨v', w', e1, o1, gr, at1⟩ := append_int o' (one_int w x) (by simp; omega) hl
  obtain ⟨p1, c1, hv, _⟩ := o1.form
  rw [List.length_append, List.length_cons, List.length_nil] at hv
  subst hv
  refine ⟨p1, c1, w', e1, o1, ?_, ?_, below_grown (w := w.alloc (.cells #[.int .i64 x] 3)) (by go_grown) o' (Nat.le_refl _) (by simp; omega) gr⟩
  · refine World.ownsRow.kept o2' gr ?_
    cases hu : u.ownBlock with
    | none => exact Or.inl rfl
    | some i => exact Or.inr (fun e => hd i e.symm hu)
  · intro i hi hu
    rcases at1 with e | e
    · rw [e] at hi; exact hd i hi hu
    · rw [e] at hi
      injection hi with hi
      have := (World.ownsRow.lt o2 i hu).2
      simp at hi
      omega
/-- Numbers behind numbers. -/
theorem append_intsW {w : World} {base : Nat} {v : Value} {l : List Int} (ho : IOwns w base v l) (p : Option Addr) (cap : Nat) (qs : List Int) (hnil : p = none → cap = 0) (hq : IHas w p qs) (hb : base ≤ w.heap.size) (hl : l.length + qs.length ≤ 90000) :
    ∃ v' w', (Builtin.append_ #[32, 32] 32 #[v, .slice p qs.length cap]).run Try.prog w = .ok v' w' ∧ IOwns w' base v' (l ++ qs) ∧ w.grownBy w' v.ownBlock := by
  obtain ⟨i0, hi0, hz0, hz1, hz2⟩ := info_parts info3
  cases p with
  | none =>
    have hqs : qs = [] := by
      rcases hq with h | ⟨b, off, h, _⟩
      · exact h
      · cases h
    subst hqs
    rw [hnil rfl]
    exact ⟨v, w, run_append_owned_none (P := Try.prog) (w := w) base 32 32 3 i0 1 Try.underlying32 hi0 v l.length (icells l) ho, by rw [List.append_nil]; exact ho, grownBy_refl _ _⟩
  | some a =>
    have hnews : ∀ j u, (icells qs)[j]? = some u → w.cell? (a.add j) = some u := by
      rcases hq with h | ⟨b, off, h, hL⟩
      · subst h; intro j u hj; simp [icells] at hj
      · cases h
        intro j u hj
        rw [icells, List.getElem?_map] at hj
        cases hq2 : qs[j]? with
        | none => rw [hq2] at hj; cases hj
        | some x =>
          rw [hq2] at hj
          cases hj
          have hjl : j < qs.length := (List.getElem?_eq_some_iff.1 hq2).1
          rw [Go.WideShapes.add_plain, hL j hjl]
          unfold iat
          rw [List.getD_eq_getElem?_getD, hq2]
          rfl
    obtain ⟨v', w', h1, h2, h3, _⟩ := run_append_own (P := Try.prog) w base 32 32 3 i0 (.int .i64 0) 1 8 Try.underlying32 hi0 hz0 hz1 hz2 rfl (by decide) v l.length (icells l) ho a qs.length cap (icells qs) (by simp [icells]) hnews (by intro u hu; rw [icells, List.mem_map] at hu; obtain ⟨x, _, rfl⟩ := hu; rfl) (by unfold maxLen; omega) (by omega) hb
    refine ⟨v', w', h1, ?_, h3⟩
    unfold IOwns
    rw [List.length_append, show icells (l ++ qs) = icells l ++ icells qs by simp [icells]]
    exact h2
end Go.Proofs.Ytobkejnlkjieoaa

/- The net that begun asks about; Each. -/
namespace Go.Proofs.Ytobkejnlkjieoaa
open Go.RowKit Go.Sort
open Go

def ringE : List Pt := [⟨0, 1⟩, ⟨1, 2⟩, ⟨2, 0⟩, ⟨1, 0⟩]
end Go.Proofs.Ytobkejnlkjieoaa

/- Parts, in every world. -/
namespace Go.Proofs.Ytobkejnlkjieoaa
open Go.RowKit Go.Sort
open Go

/-- How many components have begun among the first nodes of a tour. -/
def pcnt (O By : List Int) : Nat → Nat
  | 0 => 0
  | j + 1 => if iat By (iat O j).toNat < 0 then pcnt O By j + 1 else pcnt O By j
/-- The components that they are told to be in. -/
def plab (O By : List Int) (n : Nat) : Nat → List Int
  | 0 => List.replicate n 0
  | j + 1 => (plab O By n j).set (iat O j).toNat ((pcnt O By (j + 1) : Int) - 1)
theorem pcnt_le (O By : List Int) : ∀ j, pcnt O By j ≤ j
  | 0 => Nat.le_refl _
  | j + 1 => by
    have := pcnt_le O By j
    simp only [pcnt]
    split <;> omega
set_option maxRecDepth 100000 in
set_option maxHeartbeats 4000000 in
theorem parts15no (n : Int) (p : Option Addr) (es : List Pt) (cp : Nat) (w : World) (h : Has w p es) (hm : netB n es = false) : Calls Try.prog 41 #[nv n p es.length cp] w fun e w' => e = .returned (.tuple #[nilS, .int .i64 0, .int .i64 1]) ∧ Below w.heap.size w w' := by
  obtain ⟨W, hW, hb, a0⟩ := one_net w n p es.length cp
  have M := hide (may13 n p es cp W (h.later hb))
  rw [hm] at M
  have HB := hide hb
  clear h hb a0 hm
  go_enter Try.func41, Try.ntmps41
  go_wp2_with fail
  rw [← hW]
  clear hW
  refine M.out.mono ?_
  rintro e w1 ⟨rfl, hb1⟩
  have HB1 := hide (below_step HB.out hb1)
  clear hb1 M
  go_wp2
  go_ret3
  exact ⟨rfl, HB1.out⟩
set_option maxRecDepth 100000 in
set_option maxHeartbeats 8000000 in
theorem parts15 (m : Nat) (p : Option Addr) (es : List Pt) (cp : Nat) (w : World) (h : Has w p es) (hm : netB m es = true) : Calls Try.prog 41 #[nv m p es.length cp] w fun e w' => ∃ g, e = .returned (.tuple #[.slice (some ⟨g, 0, none⟩) m m, .int .i64 (pcnt (everyN es m m).O (everyN es m m).By (everyN es m m).O.length : Nat), .int .i64 0]) ∧ IRow w' w.heap.size g m (plab (everyN es m m).O (everyN es m m).By m (everyN es m m).O.length) ∧ Below w.heap.size w w' := by
  obtain ⟨W, hW, hb, a0⟩ := one_net w m p es.length cp
  obtain ⟨n0, n1, hes, _⟩ := netB_is hm
  have M := hide (may13 m p es cp W (h.later hb))
  rw [hm] at M
  have HOK := hide (everyN_ok hm m (Nat.le_refl _))
  have HM := hide hm
  have HH := hide (h.later hb)
  have HB := hide hb
  have HA := hide a0
  have hws : w.heap.size < W.heap.size := block_lt_of_cell a0.1
  obtain ⟨S, hS⟩ : ∃ S, everyN es m m = S := ⟨_, rfl⟩
  have HEV := hide (fun V hV => everywhere43 m p es cp V hV hm)
  rw [hS] at HOK HEV ⊢
  obtain ⟨i0, hi0, hz0, hz1, hz2⟩ := info_parts info3
  clear h hb a0 hm hS
  go_enter Try.func41, Try.ntmps41
  go_wp2_with fail
  rw [← hW]
  clear hW
  refine M.out.mono ?_
  rintro e w1 ⟨rfl, hb1⟩
  have EV := hide (HEV.out w1 (HH.out.later hb1))
  have HA1 := hide (HA.out.later hb1)
  obtain ⟨q0, q1, _, _⟩ := HA1.out
  have HB1 := hide hb1
  clear hb1 M HEV
  go_wp2_with fail
  refine EV.out.mono ?_
  rintro e w2 ⟨v, rfl, ⟨vo, gb, gf, rfl, ho, hby, hfa, _, _, _⟩, hb2⟩
  obtain ⟨po, co, hvo, _⟩ := ho.form
  subst hvo
  obtain ⟨X, hX⟩ : ∃ X, X = w2.alloc (.cells #[.slice po S.O.length co, .slice (some ⟨gb, 0, none⟩) m m, .slice (some ⟨gf, 0, none⟩) m m, nilS] 60) := ⟨_, rfl⟩
  have hbX : Below w2.heap.size w2 X := by rw [hX]; go_grown
  have HXX : Hid (X.ownsRow 0 60 4 (.slice (some ⟨w2.heap.size, 0, none⟩) 1 1) 1 [.slice po S.O.length co, .slice (some ⟨gb, 0, none⟩) m m, .slice (some ⟨gf, 0, none⟩) m m, nilS]) := by show World.ownsRow _ _ _ _ _ _ _; rw [hX]; exact box35 _ _ _ _ _
  have HO := hide (ho.later hbX)
  have HBY := hide (hby.later hbX)
  have hbWX := below_step HB1.out (below_step hb2 hbX)
  have HAX := hide (HA.out.later hbWX)
  have HBX := hide (below_step HB.out hbWX)
  have HA2 := hide (HA.out.later (below_step HB1.out hb2))
  clear q0 q1 EV ho hby hfa hb2
  obtain ⟨q0, q1, _, _⟩ := HA2.out
  have z1 : w.heap.size < w2.heap.size := block_lt_of_cell q0
  have z2 : w.heap.size ≠ w2.heap.size := by omega
  go_wp2_with (refine wpList_make_full _ rfl (.tmp 16) (.tmp 16) 32 rfl (w2.alloc (.cells #[.slice po S.O.length co, .slice (some ⟨gb, 0, none⟩) m m, .slice (some ⟨gf, 0, none⟩) m m, nilS] 60)).heap.size 3 i0 (.int .i64 0) 1 Try.underlying32 hi0 hz0 hz1 .i64 .i64 _ _ m rfl rfl rfl rfl ?c1 ?c2 ?c3 ?_)
  case c1 => rw [hz2]; omega
  case c2 => unfold maxLen; omega
  case c3 => exact Nat.le_refl _
  intro w3 hown hgrow
  have sX : X.heap.size = w2.heap.size + 1 := by rw [hX]; simp
  rw [← hX] at hgrow
  rw [show w2.heap.size + 1 = X.heap.size from sX.symm] at hown ⊢
  have HR3 := hide (irow_made hown)
  have HB3 := hide (below_made hgrow)
  clear hown hgrow hX hbX hbWX q0 q1 z1 z2
  obtain ⟨x0, x1, _, _, _, _, _, _⟩ := box_cells (box_later HXX.out HB3.out)
  have sw : w.heap.size ≤ X.heap.size := HBX.out.size
  obtain ⟨kt, hkt⟩ : ∃ kt, w2.heap.size = kt := ⟨_, rfl⟩
  rw [hkt] at HXX x0 x1 ⊢
  obtain ⟨g, hg⟩ : ∃ g, X.heap.size = g := ⟨_, rfl⟩
  rw [hg] at HR3 ⊢
  have HG := hide hg
  clear hkt hg sX
  have hcn := HOK.out.cnt
  go_wp2_with fail
  clear x0 x1
  go_loopw [7, 21] (fun t7 t21 wr => ∃ j : Nat, j ≤ S.O.length ∧ t7 = .int .i64 (pcnt S.O S.By j : Nat) ∧ t21 = .int .i64 j ∧ Hid (Below X.heap.size X wr) ∧ Hid (IRow wr g g m (plab S.O S.By m j))) (fun _ t21 _ => S.O.length - (intOf t21).toNat)
  case atStart => exact ⟨0, by omega, rfl, rfl, HB3.out, HR3.out⟩
  case round =>
    obtain ⟨j, hj, rfl, rfl, HBr, HR⟩ := hrel
    by_cases hlt : j < S.O.length
    · have i1 : (j : Int) < S.O.length := by omega
      have i2 : (0 : Int) ≤ j := by omega
      obtain ⟨u0, u1⟩ := HOK.out.mem j hlt
      have ho := HO.out.later HBr.out
      obtain ⟨bo, cc, hbo, _, _, _⟩ := iowns_blockW ho (by omega)
      simp only [Value.slice.injEq, true_and] at hbo
      obtain ⟨rfl, rfl⟩ := hbo
      have o1 := ho.at_ hlt
      have hpl := pcnt_le S.O S.By j
      have HPC : Hid (pcnt S.O S.By (j + 1) = if iat S.By (iat S.O j).toNat < 0 then pcnt S.O S.By j + 1 else pcnt S.O S.By j) := rfl
      have HPL : Hid (plab S.O S.By m (j + 1) = (plab S.O S.By m j).set (iat S.O j).toNat ((pcnt S.O S.By (j + 1) : Int) - 1)) := rfl
      obtain ⟨v, hv⟩ : ∃ v : Nat, iat S.O j = v := ⟨(iat S.O j).toNat, by omega⟩
      rw [hv] at o1 u0 u1 HPC HPL
      rw [Int.toNat_natCast] at HPC HPL
      have hvm : v < m := by omega
      obtain ⟨_, x1, _, _, _, _, _, _⟩ := box_cells (box_later HXX.out HBr.out)
      obtain ⟨y0, _⟩ := (HBY.out.later HBr.out).cell hvm
      obtain ⟨r0, r1⟩ := HR.out.cell hvm
      have k1 : (v : Int) < m := by omega
      have k2 : (0 : Int) ≤ v := by omega
      have hgB : X.heap.size ≤ g := by rw [HG.out]; exact Nat.le_refl _
      obtain ⟨c, hc⟩ : ∃ c, pcnt S.O S.By j = c := ⟨_, rfl⟩
      rw [hc] at hpl HPC ⊢
      clear ho hv hc
      by_cases hneg : iat S.By v < 0
      · rw [if_pos hneg] at HPC
        rw [HPC.out] at HPL
        obtain ⟨b, hb⟩ : ∃ b, iat S.By v = b := ⟨_, rfl⟩
        rw [hb] at y0 hneg
        clear hb
        go_wp2
        go_roundw
        case rel => exact ⟨j + 1, by omega, by rw [HPC.out]; go_num, by go_num, HBr.out.setCell hgB _, by show IRow _ _ _ _ _; rw [HPL.out, show ((c + 1 : Nat) : Int) - 1 = c by omega]; first | exact HR.out.set v _ | (have := HR.out.set v (c : Int); simpa using this)⟩
        case measure => simp [intOf]; omega
      · rw [if_neg hneg] at HPC
        rw [HPC.out] at HPL
        obtain ⟨b, hb⟩ : ∃ b, iat S.By v = b := ⟨_, rfl⟩
        rw [hb] at y0 hneg
        clear hb
        go_wp2
        go_roundw
        case rel => exact ⟨j + 1, by omega, by rw [HPC.out], by go_num, HBr.out.setCell hgB _, by show IRow _ _ _ _ _; rw [HPL.out]; exact HR.out.set v _⟩
        case measure => simp [intOf]; omega
    · have hjn : j = S.O.length := by omega
      have i1 : ¬ (j : Int) < S.O.length := by omega
      rw [hjn] at HR ⊢
      clear hjn
      go_wp2
      go_ret3
      exact ⟨g, rfl, HR.out.base (by rw [← HG.out]; exact sw), below_step HBX.out HBr.out⟩
end Go.Proofs.Ytobkejnlkjieoaa

/- The ends of an edge lie under one beginning, where everything is gone through. -/
namespace Go.Proofs.Ytobkejnlkjieoaa
open Go.RowKit Go.Sort
open Go

variable {es : List Pt} {n : Nat} {st : St}
theorem rtN_put {v : Nat} {O : List Int} {h f : Int} (t : Tree es n st) (hn : iat st.Fa v < 0) : ∀ (k x : Nat), x < n → 0 ≤ iat st.Fa x → (k : Int) ≤ iat st.Fa x → rtN es ⟨O, st.By.set v h, st.Fa.set v f⟩ k x = rtN es st k x
  | 0, _, _, _, _ => rfl
  | k + 1, x, hx, h0, hk => by
    have hne : x ≠ v := fun e => by rw [e] at h0; omega
    have hp : par es ⟨O, st.By.set v h, st.Fa.set v f⟩ x = par es st x := by
      unfold par
      simp only [iat_put_neW hne]
    obtain ⟨_, _, _, _, _, h5, h6, h7, _⟩ := root_par t hx (by omega)
    simp only [rtN]
    rw [hp]
    exact rtN_put t hn k _ h5 h7 (by omega)
theorem root_put {v x : Nat} {O : List Int} {h f : Int} (t : Tree es n st) (hn : iat st.Fa v < 0) (hx : x < n) (h0 : 0 ≤ iat st.Fa x) : root es ⟨O, st.By.set v h, st.Fa.set v f⟩ x = root es st x := by
  have hne : x ≠ v := fun e => by rw [e] at h0; omega
  unfold root
  simp only [iat_put_neW hne]
  exact rtN_put t hn _ x hx h0 (by omega)
/-- Whoever is found has all its neighbours found, under the same beginning. -/
structure Shut (es : List Pt) (n : Nat) (st : St) : Prop where
  ok : Ok n st
  tree : Tree es n st
  all : ∀ h a b : Nat, h < 2 * es.length → fromL es h = a → toL es h = b → 0 ≤ iat st.Fa a → 0 ≤ iat st.Fa b ∧ root es st a = root es st b
/-- A walk from s under way, where others have been shut before it. -/
structure Run (es : List Pt) (n : Nat) (st0 : St) (s j0 j : Nat) (st : St) : Prop where
  ok : Ok n st
  tree : Tree es n st
  shut : ∀ i, j0 ≤ i → i < j → i < st.O.length → ∀ h, h < 2 * es.length → fromL es h = iat st.O i → 0 ≤ iat st.Fa (toL es h).toNat
  pre : ∀ i, i < j0 → i < st.O.length ∧ 0 ≤ iat st0.Fa (oj st i)
  old : ∀ v, v < n → 0 ≤ iat st0.Fa v → 0 ≤ iat st.Fa v ∧ root es st v = root es st0 v
  new : ∀ v, v < n → 0 ≤ iat st.Fa v → 0 ≤ iat st0.Fa v ∨ root es st v = s
  beg : 0 ≤ iat st.Fa s
theorem Run.step {st0 : St} {s j0 j u h : Nat} (r : Run es n st0 s j0 j st) (c : Shut es n st0) (hm : netB n es = true) (hj : j < st.O.length) (hu : u < n) (h0 : 0 ≤ iat st.Fa u) (hh : h < 2 * es.length) (hf : fromL es h = u) :
    Run es n st0 s j0 j (bStep es u st h) ∧ 0 ≤ iat (bStep es u st h).Fa (toL es h).toNat ∧ ∀ y, 0 ≤ iat st.Fa y → 0 ≤ iat (bStep es u st h).Fa y := by
  have T := r.tree.step r.ok hm hu h0 hh hf
  have K := (r.ok.step hm hu h0 hh).1
  obtain ⟨t1, t2⟩ := toL_in hm h hh
  obtain ⟨x, hx⟩ : ∃ x : Nat, toL es h = x := ⟨(toL es h).toNat, by omega⟩
  have hxn : x < n := by omega
  by_cases hneg : iat st.Fa x < 0
  · have e : bStep es u st h = ⟨st.O ++ [(x : Int)], st.By.set x h, st.Fa.set x (iat st.Fa u + 1)⟩ := by
      unfold bStep
      rw [hx, Int.toNat_natCast, if_pos hneg]
    rw [e] at T K ⊢
    have hFx : iat (st.Fa.set x (iat st.Fa u + 1)) x = iat st.Fa u + 1 := iat_putW (by rw [r.ok.lf]; exact hxn)
    have hBx : iat (st.By.set x (h : Int)) x = h := iat_putW (by rw [r.ok.lb]; exact hxn)
    have keep : ∀ y : Nat, 0 ≤ iat st.Fa y → 0 ≤ iat (st.Fa.set x (iat st.Fa u + 1)) y := fun y hy => by rw [iat_put_neW (fun e => by rw [e] at hy; omega)]; exact hy
    have hus : root es st u = s := by
      rcases r.new u hu h0 with h1 | h1
      · exfalso
        have := (c.all h u x hh hf hx h1).1
        have := (r.old x hxn this).1
        omega
      · exact h1
    refine ⟨⟨K, T, ?_, ?_, ?_, ?_, keep s r.beg⟩, ?_, keep⟩
    · intro i hi hij _ k hk hkf
      have hil : i < st.O.length := by omega
      have hO : iat (st.O ++ [(x : Int)]) i = iat st.O i := by rw [iat_app, if_pos hil]
      exact keep _ (r.shut i hi hij hil k hk (by rw [← hO]; exact hkf))
    · intro i hi
      obtain ⟨p1, p2⟩ := r.pre i hi
      refine ⟨by simp; omega, ?_⟩
      rw [oj_app p1]
      exact p2
    · intro v hv hv0
      obtain ⟨o1, o2⟩ := r.old v hv hv0
      exact ⟨keep v o1, by rw [root_put r.tree hneg hv o1]; exact o2⟩
    · intro v hv hv0
      by_cases ev : v = x
      · right
        subst ev
        obtain ⟨_, _, _, _, _, _, _, _, h8⟩ := root_par T hv (by show 0 < iat (st.Fa.set v (iat st.Fa u + 1)) v; rw [hFx]; omega)
        rw [← h8]
        have hp : par es ⟨st.O ++ [(v : Int)], st.By.set v h, st.Fa.set v (iat st.Fa u + 1)⟩ v = u := by
          unfold par
          rw [show iat (st.By.set v (h : Int)) v = h from hBx, Int.toNat_natCast, hf, Int.toNat_natCast]
        rw [hp, root_put r.tree hneg hu h0]
        exact hus
      · have hv1 : 0 ≤ iat st.Fa v := by
          have h1 : 0 ≤ iat (st.Fa.set x (iat st.Fa u + 1)) v := hv0
          rw [iat_put_neW ev] at h1
          exact h1
        rw [root_put r.tree hneg hv hv1]
        exact r.new v hv hv1
    · rw [hx, Int.toNat_natCast]
      show 0 ≤ iat (st.Fa.set x (iat st.Fa u + 1)) x
      rw [hFx]; omega
  · have e : bStep es u st h = st := by
      unfold bStep
      rw [hx, Int.toNat_natCast, if_neg hneg]
    rw [e]
    exact ⟨r, by rw [hx, Int.toNat_natCast]; omega, fun _ h => h⟩
theorem Run.row {st0 : St} {s j0 j : Nat} (r : Run es n st0 s j0 j st) (c : Shut es n st0) (hm : netB n es = true) (hj : j < st.O.length) : ∀ t, t ≤ (outL es (2 * es.length) (oj st j)).length → Run es n st0 s j0 j (bRow es (oj st j) st t) ∧ 0 ≤ iat (bRow es (oj st j) st t).Fa (oj st j) ∧ ∀ i, i < t → ∀ h : Nat, iat (outL es (2 * es.length) (oj st j)) i = h → 0 ≤ iat (bRow es (oj st j) st t).Fa (toL es h).toNat
  | 0, _ => ⟨r, r.ok.fnd j hj, fun i hi => by omega⟩
  | t + 1, ht => by
    obtain ⟨r1, h0, hw⟩ := Run.row r c hm hj t (by omega)
    have hm' := r.ok.mem j hj
    have hun : oj st j < n := by show (iat st.O j).toNat < n; omega
    obtain ⟨h, hh, hh2, hh3⟩ := outL_at (es := es) (h := 2 * es.length) (v := oj st j) (j := t) (by omega)
    have hle := bRow_len es (oj st j) st t
    obtain ⟨s1, s2, s3⟩ := r1.step c hm (by omega) hun h0 hh2 hh3
    simp only [bRow]
    rw [hh, Int.toNat_natCast]
    refine ⟨s1, s3 _ h0, fun i hi k hk => ?_⟩
    by_cases e : i = t
    · rw [e, hh] at hk
      have : h = k := by omega
      rw [← this]
      exact s2
    · exact s3 _ (hw i (by omega) k hk)
theorem Run.next {st0 : St} {s j0 j : Nat} (r : Run es n st0 s j0 j st) (c : Shut es n st0) (hm : netB n es = true) (hj : j < st.O.length) : Run es n st0 s j0 (j + 1) (bRow es (oj st j) st (outL es (2 * es.length) (oj st j)).length) := by
  obtain ⟨r1, h0, hw⟩ := r.row c hm hj _ (Nat.le_refl _)
  refine ⟨r1.ok, r1.tree, ?_, r1.pre, r1.old, r1.new, r1.beg⟩
  intro i hi hij hil h hh hf
  by_cases e : i = j
  · subst e
    have hm' := r.ok.mem i hj
    rw [bRow_oj hj] at hf
    obtain ⟨q, hq, hqe⟩ := outL_mem (es := es) (h := 2 * es.length) (v := oj st i) (k := h) hh (by rw [hf]; show iat st.O i = ((iat st.O i).toNat : Int); omega)
    exact hw q hq h hqe
  · exact r1.shut i hi (by omega) hil h hh hf
theorem Run.all {st0 : St} {s j0 : Nat} (c : Shut es n st0) (hm : netB n es = true) : ∀ (k j : Nat) (st : St), Run es n st0 s j0 j st → n ≤ k + j → ∃ j', Run es n st0 s j0 j' (bfs es k j st) ∧ (bfs es k j st).O.length ≤ j'
  | 0, j, st, b, hk => ⟨j, b, by have := b.ok.cnt; show st.O.length ≤ j; omega⟩
  | k + 1, j, st, b, hk => by
    simp only [bfs]
    split
    · rename_i hj; exact Run.all c hm k (j + 1) _ (b.next c hm hj) (by omega)
    · exact ⟨j, b, by omega⟩
theorem twn_from (es : List Pt) (k : Nat) : fromL es (twnW (k : Int)).toNat = toL es k := by
  unfold twnW
  by_cases h2 : (k : Int) % 2 = 0
  · rw [if_pos h2, show ((k : Int) + 1).toNat = k + 1 by omega]
    unfold toL fromL
    rw [if_neg (by omega), if_pos (by omega), show (k + 1) / 2 = k / 2 by omega]
  · rw [if_neg h2, show ((k : Int) - 1).toNat = k - 1 by omega]
    unfold toL fromL
    rw [if_pos (by omega), if_neg (by omega), show (k - 1) / 2 = k / 2 by omega]
/-- A walk from a node that is not found yet shuts what it finds. -/
theorem Shut.walk {s : Nat} (c : Shut es n st) (hm : netB n es = true) (hs : s < n) (hn : iat st.Fa s < 0) : Shut es n (bfs es n st.O.length (begin_ st s)) ∧ 0 ≤ iat (bfs es n st.O.length (begin_ st s)).Fa s ∧ ∀ v, v < n → 0 ≤ iat st.Fa v → 0 ≤ iat (bfs es n st.O.length (begin_ st s)).Fa v := by
  have hF : iat (begin_ st s).Fa s = 0 := iat_putW (by rw [c.ok.lf]; exact hs)
  have r0 : Run es n st s st.O.length st.O.length (begin_ st s) := by
    refine ⟨c.ok.begin_ hs hn, c.tree.begin_ c.ok hs hn, fun i hi hij => by omega, ?_, ?_, ?_, by rw [hF]; omega⟩
    · intro i hi
      refine ⟨by simp [begin_]; omega, ?_⟩
      have : oj (begin_ st s) i = oj st i := oj_app hi
      rw [this]
      exact c.ok.fnd i hi
    · intro v hv h0
      have hne : v ≠ s := fun e => by rw [e] at h0; omega
      refine ⟨?_, root_put c.tree hn hv h0⟩
      show 0 ≤ iat (st.Fa.set s 0) v
      rw [iat_put_neW hne]
      exact h0
    · intro v hv h0
      by_cases e : v = s
      · right
        rw [e]
        exact root_zero hF
      · left
        have h1 : 0 ≤ iat (st.Fa.set s 0) v := h0
        rw [iat_put_neW e] at h1
        exact h1
  obtain ⟨j', r, hj'⟩ := Run.all c hm n st.O.length _ r0 (by omega)
  refine ⟨⟨r.ok, r.tree, fun h a b hh ha hb h0 => ?_⟩, r.beg, fun v hv h0 => (r.old v hv h0).1⟩
  have an : a < n := by have := fromL_in hm h hh; omega
  have bn : b < n := by have := toL_in hm h hh; omega
  by_cases hCa : 0 ≤ iat st.Fa a
  · obtain ⟨q1, q2⟩ := c.all h a b hh ha hb hCa
    exact ⟨(r.old b bn q1).1, by rw [(r.old a an hCa).2, (r.old b bn q1).2]; exact q2⟩
  · obtain ⟨q, hq, hqe⟩ := r.tree.surj a an h0
    have hj0 : st.O.length ≤ q := by
      rcases Nat.lt_or_ge q st.O.length with hlt | hge
      · exfalso
        apply hCa
        have := (r.pre q hlt).2
        rw [show oj (bfs es n st.O.length (begin_ st s)) q = a by show (iat _ q).toNat = a; rw [hqe, Int.toNat_natCast]] at this
        exact this
      · exact hge
    have hb0 := r.shut q hj0 (by omega) hq h hh (by rw [ha, hqe])
    rw [hb, Int.toNat_natCast] at hb0
    refine ⟨hb0, ?_⟩
    have hCb : ¬ 0 ≤ iat st.Fa b := fun hb1 => hCa (by
      obtain ⟨k, hk, hk2⟩ := twn_in hh
      have e1 := twn_from es h
      have e2 := twn_to es h
      rw [hk, Int.toNat_natCast] at e1 e2
      exact (c.all k b a hk2 (by rw [e1, hb]) (by rw [e2, ha]) hb1).1)
    rw [(r.new a an h0).resolve_left hCa, (r.new b bn hb0).resolve_left hCb]
theorem shut0 (es : List Pt) (n : Nat) (hm : netB n es = true) : Shut es n (st0 n) where
  ok := st0_ok n
  tree := tree0 es n _ _ (fun v hv => by simp [iat, hv]) (fun v hv => by simp [iat, hv])
  all h a b hh ha hb h0 := by
    have an : a < n := by have := fromL_in hm h hh; omega
    exfalso
    have : iat (List.replicate n (-1 : Int)) a = -1 := by simp [iat, an]
    have h1 : 0 ≤ iat (List.replicate n (-1 : Int)) a := h0
    omega
/-- Everywhere: all are found, and the ends of an edge lie under one beginning. -/
theorem everyN_shut (hm : netB n es = true) : ∀ s, s ≤ n → Shut es n (everyN es n s) ∧ ∀ v, v < s → 0 ≤ iat (everyN es n s).Fa v
  | 0, _ => ⟨shut0 es n hm, fun v hv => by omega⟩
  | s + 1, hs => by
    obtain ⟨c, ha⟩ := everyN_shut hm s (by omega)
    simp only [everyN]
    split
    · rename_i hneg
      obtain ⟨c1, c2, c3⟩ := c.walk hm (by omega) hneg
      refine ⟨c1, fun v hv => ?_⟩
      by_cases e : v = s
      · rw [e]; exact c2
      · exact c3 v (by omega) (ha v (by omega))
    · rename_i hneg
      refine ⟨c, fun v hv => ?_⟩
      by_cases e : v = s
      · rw [e]; omega
      · exact ha v (by omega)
end Go.Proofs.Ytobkejnlkjieoaa
