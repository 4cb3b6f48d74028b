/- Light, Twin, Kept, Ints, the document's May. -/
import Derived.Test.YtgfiofogcnnkhaaNQ
import Derived.Test.YtgfiofogcnnkhaaHA
import Derived.Test.YtgfiofogcnnkhaaGF
import Derived.Test.YtgfiofogcnnkhaaGH
import Derived.Test.YtgfiofogcnnkhaaR3
import Derived.Deep.RegionHeld3
import Derived.Lib.QuietBelow
import Derived.BigQuiet
import Derived.Deep.QuietTactic
namespace Go.Proofs.Ytgfiofogcnnkhaa
open Go.RowKit Go.Sort
open Go

set_option maxHeartbeats 1000000 in
theorem ints30 (p q : Option Addr) (a b : List Int) (cp cq : Nat) (w : World) (hla : a.length ≤ maxLen) (hp : IHas w p a) (hq : IHas w q b) : Calls Try.prog 48 #[.slice p a.length cp, .slice q b.length cq] w fun e w' => e = .returned (.bool (decide (a = b))) ∧ Below w.heap.size w w' := by
  have H := hide hp
  have K := hide hq
  unfold maxLen at hla
  clear hp hq
  by_cases hl : a.length = b.length
  · go_enter Try.func48, Try.ntmps48
    have hli : ((a.length : Int) == b.length) = true := by simp [hl]
    go_wp2_with fail
    go_loopw [5] (fun t wr => ∃ i : Nat, i ≤ a.length ∧ t = .int .i64 i ∧ Hid (∀ j, j < i → iat a j = iat b j) ∧ Hid (Below w.heap.size w wr)) (fun t _ => a.length - (intOf t).toNat)
    case atStart => exact ⟨0, by omega, rfl, fun j hj => by omega, Below.refl _ _⟩
    case round =>
      obtain ⟨i, hi, rfl, HP, HB⟩ := hrel
      by_cases hlt : i < a.length
      · rcases H.out.later HB.out with h | ⟨b1, o1, rfl, l1⟩
        · subst h; simp at hlt
        rcases K.out.later HB.out with h | ⟨b2, o2, rfl, l2⟩
        · rw [h] at hl; simp at hl; rw [hl] at hlt; simp at hlt
        have c0 := l1 i hlt
        have d0 := l2 i (by omega)
        clear l1 l2
        obtain ⟨x, hx⟩ : ∃ x, iat a i = x := ⟨_, rfl⟩
        obtain ⟨y, hy⟩ : ∃ y, iat b i = y := ⟨_, rfl⟩
        rw [hx] at c0
        rw [hy] at d0
        have e1 : (i : Int) < a.length := by omega
        have e2 : (i : Int) < b.length := by omega
        by_cases hxy : x = y
        · subst hxy
          go_wp2_with fail
          go_quiet (fail)
          go_wp2
          go_roundw
          case rel => exact ⟨i + 1, by omega, by go_num, more HP.out (by rw [hx, hy]), below_drewN HB.out⟩
          case measure => simp [intOf]; omega
        · have hxb : (x == y) = false := by simpa using hxy
          go_wp2_with fail
          go_quiet (fail)
          go_wp2
          go_ret
          refine ⟨retB ?_, below_drewN HB.out⟩
          have hne : a ≠ b := by
            intro e
            subst e
            rw [hx] at hy
            exact absurd hy hxy
          simp [hne]
      · go_wp2
        go_ret
        have : i = a.length := by omega
        subst this
        exact ⟨retB (by simp [iat_ext hl HP.out]), HB.out⟩
  · go_enter Try.func48, Try.ntmps48
    have hli : ((a.length : Int) == b.length) = false := by simp; omega
    go_wp2
    go_ret
    refine ⟨retB ?_, Below.refl _ _⟩
    have hne : a ≠ b := fun e => hl (by rw [e])
    simp [hne]

set_option maxRecDepth 100000 in
set_option maxHeartbeats 4000000 in
theorem may12 (n : Int) (p : Option Addr) (es : List Pt) (cap : Nat) (w : World) (h : Has w p es) : Calls Try.prog 32 #[nv n p es.length cap] w fun e w' => e = .returned (.bool (netB n es)) ∧ Below w.heap.size w w' := by
  have H := hide h
  clear h
  by_cases h0 : 0 ≤ n
  · by_cases hn : n ≤ 1024
    · by_cases hl : es.length ≤ 3072
      · have hf : fitsB n es.length = true := by simp [fitsB, hn]; omega
        go_enter Try.func32, Try.ntmps32
        go_wp2_with fail
        go_loopw [3] (fun t wr => ∃ i : Nat, i ≤ es.length ∧ t = .int .i64 i ∧ Hid (∀ j, j < i → edB n (at' es j) = true) ∧ Hid (Below w.heap.size w wr) ∧ Hid (NOwn wr w.heap.size n p es.length cap)) (fun t _ => es.length - (intOf t).toNat)
        case atStart => exact ⟨0, by omega, rfl, fun j hj => by omega, by show Below _ _ _; go_grown, ⟨by go_cell, by go_cell, by simp [go_sem], by simp [go_sem]⟩⟩
        case round =>
          obtain ⟨i, hi, rfl, HP, HB, HN⟩ := hrel
          obtain ⟨q0, q1, _, _⟩ := HN.out
          by_cases hlt : i < es.length
          · go_wp2_with fail
            clear q0 q1
            go_loopw [4] (fun t wr => ∃ k : Nat, k ≤ 2 ∧ t = .int .i64 k ∧ Hid ((1 ≤ k → belowB (at' es i).x n = true) ∧ (2 ≤ k → belowB (at' es i).y n = true)) ∧ Hid (Below w.heap.size w wr) ∧ Hid (NOwn wr w.heap.size n p es.length cap)) (fun t _ => 2 - (intOf t).toNat)
            case atStart => exact ⟨0, by omega, rfl, ⟨fun h => by omega, fun h => by omega⟩, HB.out, HN.out⟩
            case round =>
              obtain ⟨k, hk, rfl, HS, HBk, HNk⟩ := hrel
              obtain ⟨q0, q1, _, _⟩ := HNk.out
              rcases H.out.later HBk.out with h | ⟨b, off, rfl, hL⟩
              · subst h; simp at hlt
              obtain ⟨c0, c1⟩ := hL i hlt
              have i1 : (i : Int) < es.length := by omega
              have i2 : (0 : Int) ≤ i := by omega
              have hbx : Hid (belowB (at' es i).x n = (decide (0 ≤ (at' es i).x) && decide ((at' es i).x < n))) := rfl
              have hby : Hid (belowB (at' es i).y n = (decide (0 ≤ (at' es i).y) && decide ((at' es i).y < n))) := rfl
              have hed : Hid (edB n (at' es i) = (belowB (at' es i).x n && belowB (at' es i).y n)) := rfl
              obtain ⟨r, hr⟩ : ∃ r, at' es i = r := ⟨_, rfl⟩
              rw [hr] at c0 c1 hbx hby HS
              have hed' : Hid (edB n (at' es i) = (belowB r.x n && belowB r.y n)) := by show _ = _; rw [hed.out, hr]
              have HRR := hide hr
              clear hL hr hed
              rcases (by omega : k = 0 ∨ k = 1 ∨ k = 2) with rfl | rfl | rfl
              · by_cases hx0 : r.x < 0
                · have g1 : decide (r.x < 0) = true := decide_eq_true hx0
                  go_wp2_with fail
                  go_quiet (fail)
                  go_wp2
                  go_ret
                  exact ⟨retB (by rw [net_no hlt (by rw [hed'.out, hbx.out]; simp; omega)]), below_drewN HBk.out⟩
                · have g1 : decide (r.x < 0) = false := decide_eq_false hx0
                  by_cases hxn : n ≤ r.x
                  · have g2 : decide (n ≤ r.x) = true := decide_eq_true hxn
                    go_wp2_with fail
                    go_quiet (fail)
                    go_wp2
                    go_ret
                    exact ⟨retB (by rw [net_no hlt (by rw [hed'.out, hbx.out]; simp; omega)]), below_drewN HBk.out⟩
                  · have g2 : decide (n ≤ r.x) = false := decide_eq_false hxn
                    go_wp2_with fail
                    go_quiet (fail)
                    go_wp2
                    go_roundw
                    case rel => exact ⟨1, by omega, by go_num, ⟨fun _ => by rw [HRR.out, hbx.out]; simp; omega, fun h => by omega⟩, below_drewN HBk.out, HNk.out.later (below_drewN (Below.refl _ _))⟩
                    case measure => simp [intOf]
              · by_cases hx0 : r.y < 0
                · have g1 : decide (r.y < 0) = true := decide_eq_true hx0
                  go_wp2_with fail
                  go_quiet (fail)
                  go_wp2
                  go_ret
                  exact ⟨retB (by rw [net_no hlt (by rw [hed'.out, hby.out]; simp; omega)]), below_drewN HBk.out⟩
                · have g1 : decide (r.y < 0) = false := decide_eq_false hx0
                  by_cases hxn : n ≤ r.y
                  · have g2 : decide (n ≤ r.y) = true := decide_eq_true hxn
                    go_wp2_with fail
                    go_quiet (fail)
                    go_wp2
                    go_ret
                    exact ⟨retB (by rw [net_no hlt (by rw [hed'.out, hby.out]; simp; omega)]), below_drewN HBk.out⟩
                  · have g2 : decide (n ≤ r.y) = false := decide_eq_false hxn
                    go_wp2_with fail
                    go_quiet (fail)
                    go_wp2
                    go_roundw
                    case rel => exact ⟨2, by omega, by go_num, ⟨fun h => by rw [HRR.out]; exact HS.out.1 (by omega), fun _ => by rw [HRR.out, hby.out]; simp; omega⟩, below_drewN HBk.out, HNk.out.later (below_drewN (Below.refl _ _))⟩
                    case measure => simp [intOf]
              · clear q0 q1 c0 c1
                go_wp2
                go_roundw
                case rel => exact ⟨i + 1, by omega, by go_num, more HP.out (by rw [hed'.out, HS.out.1 (by omega), HS.out.2 (by omega)]; rfl), HBk.out, HNk.out⟩
                case measure => simp [intOf]; omega
          · go_wp2
            go_ret
            have : i = es.length := by omega
            subst this
            exact ⟨retB (by rw [net_yes h0 hf HP.out]), HB.out⟩
      · have hl' : (3072 : Int) < es.length := by omega
        go_enter Try.func32, Try.ntmps32
        go_wp2
        go_ret
        exact ⟨retB (by simp [netB, fitsB]; omega), by go_grown⟩
    · have hn' : 1024 < n := by omega
      go_enter Try.func32, Try.ntmps32
      go_wp2
      go_ret
      exact ⟨retB (by simp [netB, fitsB]; omega), by go_grown⟩
  · have h0' : n < 0 := by omega
    go_enter Try.func32, Try.ntmps32
    go_wp2
    go_ret
    exact ⟨retB (by simp [netB]; omega), by go_grown⟩
theorem two_nets (w : World) (n : Int) (p : Option Addr) (l c : Nat) : ∃ W, W = (w.alloc (nbx n p l c)).alloc (nbx 0 none 0 0) ∧ Below w.heap.size w W ∧ NOwn W w.heap.size n p l c ∧ NOwn W (w.heap.size + 1) 0 none 0 0 :=
  ⟨_, rfl, by go_grown, ⟨by go_cell, by go_cell, by simp [go_sem], by simp [go_sem]⟩, by go_cell, by go_cell, by simp [go_sem], by simp [go_sem]⟩

theorem one_net (w : World) (n : Int) (p : Option Addr) (l c : Nat) : ∃ W, W = w.alloc (nbx n p l c) ∧ Below w.heap.size w W ∧ NOwn W w.heap.size n p l c :=
  ⟨_, rfl, by go_grown, by go_cell, by go_cell, by simp [go_sem], by simp [go_sem]⟩

theorem other2 {U : World} {g i j : Nat} {a b v : Value} {A : Addr} (h : U.cell? A = some v) (hne : A.block ≠ g) : ((U.setCell ⟨g, i, none⟩ a).setCell ⟨g, j, none⟩ b).drew.cell? A = some v := by
  have n1 : (⟨g, i, none⟩ : Addr) ≠ A := fun e => hne (by rw [← e])
  have n2 : (⟨g, j, none⟩ : Addr) ≠ A := fun e => hne (by rw [← e])
  show ((U.setCell ⟨g, i, none⟩ a).setCell ⟨g, j, none⟩ b).cell? A = some v
  rw [World.cell?_setCell_other _ _ _ _ n2, World.cell?_setCell_other _ _ _ _ n1]; exact h
theorem cells_one : ∀ (ps : List Pt), ∀ v ∈ cells ps, v.oneCell' = true
  | [], v, h => by simp [cells] at h
  | p :: r, v, h => by
    simp only [cells, List.mem_cons] at h
    rcases h with rfl | rfl | h
    · rfl
    · rfl
    · exact cells_one r v h
def lightB (n : Int) (es : List Pt) : Bool := decide (es.length ≤ 300) && (decide (n ≤ 300) || !netB n es)
set_option maxHeartbeats 1000000 in
theorem light9 (n : Int) (p : Option Addr) (es : List Pt) (cap : Nat) (w : World) (h : Has w p es) : Calls Try.prog 9 #[nv n p es.length cap] w fun e w' => e = .returned (.bool (lightB n es)) ∧ Below w.heap.size w w' := by
  obtain ⟨W, hW, hb, a0⟩ := one_net w n p es.length cap
  have M := hide (may12 n p es cap W (h.later hb))
  have HB := hide hb
  obtain ⟨q0, q1, _, _⟩ := a0
  clear h hb
  by_cases hl : es.length ≤ 300
  · have hl' : (es.length : Int) ≤ 300 := by omega
    by_cases hn : n ≤ 300
    · go_enter Try.func9, Try.ntmps9
      go_wp2_with fail
      go_ret
      exact ⟨retB (by simp [lightB, hl, hn]), by go_grown⟩
    · have hn' : 300 < n := by omega
      go_enter Try.func9, Try.ntmps9
      go_wp2_with fail
      rw [← hW]
      clear hW
      refine M.out.mono ?_
      rintro e w1 ⟨rfl, hb1⟩
      have HB1 := hide (below_step HB.out hb1)
      clear hb1 q0 q1
      go_wp2
      go_ret
      exact ⟨retB (by simp [lightB, hl]; omega), HB1.out⟩
  · have hl' : 300 < (es.length : Int) := by omega
    go_enter Try.func9, Try.ntmps9
    go_wp2_with fail
    go_ret
    exact ⟨retB (by simp [lightB, hl]), by go_grown⟩

theorem cells_lie {w : World} {b off : Nat} {es : List Pt} (hsrc : Lies w b off es) : ∀ j v, (cells es)[j]? = some v → w.cell? ((⟨b, off, none⟩ : Addr).add j) = some v := by
  intro j v hj
  have hjl : j < es.length * 2 := by
    have := (List.getElem?_eq_some_iff.1 hj).1
    rw [cells_length] at this
    exact this
  rw [Go.WideShapes.add_plain]
  rcases Nat.mod_two_eq_zero_or_one j with h | h
  · obtain ⟨i, rfl⟩ : ∃ i, j = i * 2 := ⟨j / 2, by omega⟩
    have k := (cells_at es i (by omega)).1
    rw [k] at hj
    cases hj
    exact (hsrc i (by omega)).1
  · obtain ⟨i, rfl⟩ : ∃ i, j = i * 2 + 1 := ⟨j / 2, by omega⟩
    have k := (cells_at es i (by omega)).2
    rw [k] at hj
    cases hj
    rw [show off + (i * 2 + 1) = off + i * 2 + 1 by omega]
    exact (hsrc i (by omega)).2
theorem append_prs {w : World} {base : Nat} {v : Value} {l : List Pt} (ho : Owns w base v l) (p : Option Addr) (cap : Nat) (qs : List Pt) (hnil : p = none → cap = 0) (hq : Has w p qs) (hb : base ≤ w.heap.size) (hl : l.length + qs.length ≤ 100000) :
    ∃ v' w', (Builtin.append_ #[22, 22] 22 #[v, .slice p qs.length cap]).run Try.prog w = .ok v' w' ∧ Owns w' base v' (l ++ qs) ∧ w.grownBy w' v.ownBlock := by
  obtain ⟨i0, hi0, hz0, hz1, hz2⟩ := info_parts info60
  cases p with
  | none =>
    have hqs : qs = [] := by
      rcases hq with h | ⟨b, off, h, _⟩
      · exact h
      · cases h
    subst hqs
    rw [hnil rfl]
    exact ⟨v, w, run_append_owned_none (P := Try.prog) (w := w) base 22 22 68 i0 2 Try.underlying22 hi0 v l.length (cells l) ho, by rw [List.append_nil]; exact ho, grownBy_refl _ _⟩
  | some a =>
    have hnews : ∀ j u, (cells qs)[j]? = some u → w.cell? (a.add j) = some u := by
      rcases hq with h | ⟨b, off, h, hL⟩
      · subst h; intro j u hj; simp [cells] at hj
      · cases h; exact cells_lie hL
    obtain ⟨v', w', h1, h2, h3, _⟩ := run_append_own (P := Try.prog) w base 22 22 68 i0 (.agg #[.int .i64 0, .int .i64 0]) 2 16 Try.underlying22 hi0 hz0 hz1 hz2 rfl (by decide) v l.length (cells l) ho a qs.length cap (cells qs) (cells_length qs) hnews (cells_one qs) (by unfold maxLen; omega) (by omega) hb
    refine ⟨v', w', h1, ?_, h3⟩
    unfold Owns
    rw [List.length_append, cells_append]
    exact h2
theorem ret_net1 {fn : Func} {c : Tmp} (hr : fn.results = #[.cell c 24]) {tmps : Array Value} {V : World} {g : Nat} {n : Int} {p : Option Addr} {l k : Nat} (h2 : tmps.getD c undef = .pointer (some ⟨g, 0, none⟩)) (h : NOwn V g n p l k) :
    (results fn tmps).run Try.prog V = .ok (nv n p l k) V := by
  rw [results_c hr, h2, asA, Result.andThen_ok, load24 h]
theorem owns_other {w : World} {b : Nat} {v : Value} {l : List Pt} (h : Owns w b v l) {k i : Nat} (hk : k < b) (u : Value) : Owns (w.setCell ⟨k, i, none⟩ u) b v l := ownsRow_setCell_below h (by exact hk) u
theorem Owns.base {w : World} {b b' : Nat} {v : Value} {l : List Pt} (h : Owns w b v l) (hb : b' ≤ b) : Owns w b' v l := owns_base h hb
def mk : Pt := ⟨-7, 7⟩
theorem mk_lies (W : World) (n : Nat) (hn : n = W.heap.size) : Lies (W.alloc (.cells #[.int .i64 (-7), .int .i64 7] 68)) n 0 [mk] := by
  subst hn
  intro j hj
  simp at hj
  subst hj
  exact ⟨by simp only [at', mk, List.getD_cons_zero]; go_cell, by simp only [at', mk, List.getD_cons_zero]; go_cell⟩
theorem owns_block {w : World} {base : Nat} {v : Value} {l : List Pt} (h : Owns w base v l) (h0 : 0 < l.length) : ∃ g c, v = .slice (some ⟨g, 0, none⟩) l.length c ∧ l.length ≤ c ∧ base ≤ g ∧ g < w.heap.size := by
  obtain ⟨g, c, rfl, h1, h2⟩ := World.ownsRow.form h h0
  obtain ⟨p, c', hv, _, h3, _, _⟩ := Owns.form h
  simp at hv
  exact ⟨g, c, rfl, by rw [hv.2]; exact h3, h1, h2⟩
set_option maxRecDepth 100000 in
set_option maxHeartbeats 8000000 in
theorem twin11 (n : Int) (p : Option Addr) (es : List Pt) (cp : Nat) (w : World) (hnil : p = none → cp = 0) (hl : es.length ≤ 90000) (h : Has w p es) : Calls Try.prog 10 #[nv n p es.length cp] w fun e w' => ∃ g c, e = .returned (nv n (some ⟨g, 0, none⟩) es.length c) ∧ Owns w' w.heap.size (.slice (some ⟨g, 0, none⟩) (es.length + 1) c) (es ++ [mk]) ∧ es.length + 1 ≤ c ∧ Below w.heap.size w w' := by
  obtain ⟨W, hW, hb, a0, b0⟩ := two_nets w n p es.length cp
  have HB := hide hb
  have HA := hide a0
  have hws : w.heap.size + 1 < W.heap.size := block_lt_of_cell b0.1
  have hW0 := h.later hb
  have hel : (es ++ [mk]).length = es.length + 1 := by simp
  obtain ⟨v1, D1, e1, o1, gr1⟩ := append_prs (w := W.drew) (base := W.heap.size) (v := .slice none 0 0) (l := []) (Owns.nil _ _) p cp es hnil (hW0.later (below_drew _)) (by simp) (by simp; omega)
  have hb1 : Below W.heap.size W D1 := below_grown (w := W.drew) (below_drew _) (Owns.nil W.drew W.heap.size) (Nat.le_refl _) (by simp) gr1
  rw [List.nil_append] at o1
  obtain ⟨q, c, rfl, _, _, _, _⟩ := o1.form
  have hb1' : Below W.heap.size W (D1.alloc (.cells #[.int .i64 (-7), .int .i64 7] 68)) := hb1.alloc hb1.size _
  have o1' := o1.later (w' := D1.alloc (.cells #[.int .i64 (-7), .int .i64 7] 68)) (by go_grown)
  obtain ⟨v2, D2, e2, o2, gr2⟩ := append_prs o1' (some ⟨D1.heap.size, 0, none⟩) 1 [mk] (fun h => by cases h) (Or.inr ⟨_, _, rfl, mk_lies D1 _ rfl⟩) hb1'.size (by simp; omega)
  have hb2 : Below W.heap.size W D2 := below_grown hb1' o1' (Nat.le_refl _) hb1'.size gr2
  obtain ⟨g2, c2, rfl, hc2, _, _⟩ := owns_block o2 (by simp)
  rw [hel] at o2 e2 hc2
  have hbW : Below W.heap.size W (W.alloc (.cells #[.int .i64 (-7), .int .i64 7] 68)).drew := by go_grown
  obtain ⟨v3, F1, e3, o3, gr3⟩ := append_prs (w := (W.alloc (.cells #[.int .i64 (-7), .int .i64 7] 68)).drew) (base := W.heap.size) (v := .slice none 0 0) (l := []) (Owns.nil _ _) p cp es hnil (hW0.later hbW) hbW.size (by simp; omega)
  have hg3 : Below (W.alloc (.cells #[.int .i64 (-7), .int .i64 7] 68)).drew.heap.size (W.alloc (.cells #[.int .i64 (-7), .int .i64 7] 68)).drew F1 := below_grown (Below.refl _ _) (Owns.nil (W.alloc (.cells #[.int .i64 (-7), .int .i64 7] 68)).drew (W.alloc (.cells #[.int .i64 (-7), .int .i64 7] 68)).drew.heap.size) (Nat.le_refl _) (Nat.le_refl _) gr3
  have hb3 : Below W.heap.size W F1 := Below.trans hbW (hg3.mono hbW.size)
  rw [List.nil_append] at o3
  obtain ⟨q3, c3, rfl, _, _, _, _⟩ := o3.form
  obtain ⟨v4, F2, e4, o4, gr4⟩ := append_prs o3 (some ⟨W.heap.size, 0, none⟩) 1 [mk] (fun h => by cases h) (Or.inr ⟨_, _, rfl, ((mk_lies W _ rfl).later (below_drew _)).later hg3⟩) hb3.size (by simp; omega)
  have hb4 : Below W.heap.size W F2 := below_grown hb3 o3 (Nat.le_refl _) hb3.size gr4
  obtain ⟨g4, c4, rfl, hc4, _, _⟩ := owns_block o4 (by simp)
  rw [hel] at o4 e4 hc4
  simp only [List.length_cons, List.length_nil, Nat.zero_add] at e2 e4
  have HO2 := hide o2
  have HO4 := hide o4
  have HN2 := hide (b0.later hb2)
  have HN4 := hide (b0.later hb4)
  have HA1 := hide (a0.later hb1)
  have HA1' := hide (a0.later hb1')
  have HA2 := hide (a0.later hb2)
  have HAW := hide (a0.later hbW)
  have HA3 := hide (a0.later hb3)
  have HA4 := hide (a0.later hb4)
  have HB2 := hide (below_step hb hb2)
  have HB4 := hide (below_step hb hb4)
  have k1 : (es.length : Int) ≤ c2 := by omega
  have k2 : (es.length : Int) ≤ c4 := by omega
  have k3 : (0 : Int) ≤ es.length := by omega
  have zw : w.heap.size < W.heap.size := by omega
  obtain ⟨q0, q1, _, _⟩ := a0
  obtain ⟨r0, r1, r2, r3⟩ := HN2.out
  obtain ⟨s0, s1, s2, s3⟩ := HN4.out
  clear hb h o1 o1' o2 o3 o4 gr1 gr2 gr3 gr4 hb1 hb1' hb2 hb3 hb4 hbW hg3 hW0 b0 hel
  go_enter Try.func10, Try.ntmps10
  go_wp2_with fail
  rw [← hW]
  clear hW
  go_region_held3 (fun W => W.cell? ⟨w.heap.size, 0, none⟩ = some (.int .i64 n) ∧ W.cell? ⟨w.heap.size, 1, none⟩ = some (.slice p es.length cp))
    (first | exact ⟨HA.out.1, HA.out.2.1⟩ | exact ⟨HA1.out.1, HA1.out.2.1⟩ | exact ⟨HA1'.out.1, HA1'.out.2.1⟩ | exact ⟨HA2.out.1, HA2.out.2.1⟩ | exact ⟨HAW.out.1, HAW.out.2.1⟩ | exact ⟨HA3.out.1, HA3.out.2.1⟩ | exact ⟨HA4.out.1, HA4.out.2.1⟩ | exact ⟨other2 HA2.out.1 (by simp), other2 HA2.out.2.1 (by simp)⟩ | exact ⟨other2 HA4.out.1 (by simp), other2 HA4.out.2.1 (by simp)⟩)
    (first | (refine step_run_append (by rfl) (.const (.slice none 0 0)) (.tmp 6) 22 (by rfl) 22 (by rfl) (.slice none 0 0) (.slice p es.length cp) (.slice q es.length c) D1 (by rfl) (by rfl) ?_ ?_; with_reducible exact e1) | (refine step_run_append (by rfl) (.const (.slice none 0 0)) (.tmp 6) 22 (by rfl) 22 (by rfl) (.slice none 0 0) (.slice p es.length cp) (.slice q3 es.length c3) F1 (by rfl) (by rfl) ?_ ?_; with_reducible exact e3) | (refine step_run_append (by rfl) (.tmp 7) (.tmp 9) 22 (by rfl) 22 (by rfl) (.slice q es.length c) (.slice (some ⟨D1.heap.size, 0, none⟩) 1 1) (.slice (some ⟨g2, 0, none⟩) (es.length + 1) c2) D2 (by rfl) (by rfl) ?_ ?_; with_reducible exact e2) | (refine step_run_append (by rfl) (.tmp 7) (.tmp 9) 22 (by rfl) 22 (by rfl) (.slice q3 es.length c3) (.slice (some ⟨W.heap.size, 0, none⟩) 1 1) (.slice (some ⟨g4, 0, none⟩) (es.length + 1) c4) F2 (by rfl) (by rfl) ?_ ?_; with_reducible exact e4))
  all_goals
    rename_i hHeld
    clear hHeld
  · obtain ⟨V, hV⟩ : ∃ V, V = (D2.setCell ⟨w.heap.size + 1, 0, none⟩ (.int .i64 n)).setCell ⟨w.heap.size + 1, 1, none⟩ (.slice (some ⟨g2, 0, none⟩) es.length c2) := ⟨_, rfl⟩
    have kV : NOwn V (w.heap.size + 1) n (some ⟨g2, 0, none⟩) es.length c2 := by rw [hV]; exact HN2.out.set _ _ _ _
    have bV : Below w.heap.size w V := by rw [hV]; exact (HB2.out.setCell (by simp) _).setCell (by simp) _
    have oV : Owns V w.heap.size (.slice (some ⟨g2, 0, none⟩) (es.length + 1) c2) (es ++ [mk]) := by rw [hV]; exact (owns_other (owns_other HO2.out hws _) hws _).base HB.out.size
    rw [← hV]
    go_wp2_with fail
    exact bodyPost_ret (ret_net1 Try.results10 rfl kV) rfl ⟨g2, c2, rfl, oV, hc2, bV⟩
  · obtain ⟨V, hV⟩ : ∃ V, V = (F2.setCell ⟨w.heap.size + 1, 0, none⟩ (.int .i64 n)).setCell ⟨w.heap.size + 1, 1, none⟩ (.slice (some ⟨g4, 0, none⟩) es.length c4) := ⟨_, rfl⟩
    have kV : NOwn V (w.heap.size + 1) n (some ⟨g4, 0, none⟩) es.length c4 := by rw [hV]; exact HN4.out.set _ _ _ _
    have bV : Below w.heap.size w V := by rw [hV]; exact (HB4.out.setCell (by simp) _).setCell (by simp) _
    have oV : Owns V w.heap.size (.slice (some ⟨g4, 0, none⟩) (es.length + 1) c4) (es ++ [mk]) := by rw [hV]; exact (owns_other (owns_other HO4.out hws _) hws _).base HB.out.size
    rw [← hV]
    go_wp2_with fail
    exact bodyPost_ret (ret_net1 Try.results10 rfl kV) rfl ⟨g4, c4, rfl, oV, hc4, bV⟩
theorem lies_left {w : World} {b off : Nat} {a c : List Pt} (h : Lies w b off (a ++ c)) : Lies w b off a := fun j hj => by
  have := h j (by rw [List.length_append]; omega)
  have e : at' (a ++ c) j = at' a j := by unfold at'; rw [List.getD_eq_getElem?_getD, List.getD_eq_getElem?_getD, List.getElem?_append_left hj]
  rw [e] at this
  exact this
theorem at_last (es : List Pt) (p : Pt) : at' (es ++ [p]) es.length = p := by
  unfold at'; rw [List.getD_eq_getElem?_getD, List.getElem?_append_right (Nat.le_refl _)]; simp
set_option maxRecDepth 100000 in
set_option maxHeartbeats 8000000 in
theorem kept17 (n : Int) (g c : Nat) (p : Option Addr) (es : List Pt) (cp : Nat) (w : World) (hl : es.length ≤ 90000) (hc : es.length + 1 ≤ c) (ht : Lies w g 0 (es ++ [mk])) (h : Has w p es) : Calls Try.prog 13 #[nv n (some ⟨g, 0, none⟩) es.length c, nv n p es.length cp] w fun e w' => e = .returned (.bool true) ∧ Below w.heap.size w w' := by
  obtain ⟨U, hU, hb, a0, b0⟩ := two_args w n n (some ⟨g, 0, none⟩) p es.length es.length c cp
  have hm := ht es.length (by simp)
  rw [at_last, Nat.zero_add] at hm
  have m0 : U.cell? ⟨g, es.length * 2, none⟩ = some (.int .i64 (-7)) := later hb hm.1
  have m1 : U.cell? ⟨g, es.length * 2 + 1, none⟩ = some (.int .i64 7) := later hb hm.2
  have HB := hide hb
  have hT := hide ((lies_left ht).later hb)
  have hH := hide (h.later hb)
  obtain ⟨q0, q1, _, _⟩ := a0
  obtain ⟨r0, r1, _, _⟩ := b0
  clear h ht hb hm
  have CA : ∀ dd os, Calls Try.prog 20 #[nv n (some ⟨g, 0, none⟩) es.length c, nv n p es.length cp] (grow (redrawn U dd) os) fun e w'' => e = .returned (.bool true) ∧ ∃ p : Regrown, w'' = grow (redrawn U p.d) p.os := fun dd os => Calls.regrown_of (by
    have := same20 n n (some ⟨g, 0, none⟩) p es es c cp (grow (redrawn U dd) os) (by omega) (Or.inr ⟨g, 0, rfl, hT.out.later (below_regrown U dd os)⟩) (hH.out.later (below_regrown U dd os))
    rw [show sameB n n es es = true by unfold sameB; simp] at this
    exact this)
  have heq : ∀ w, (Op.equalIn 10000 68 (.agg #[.int .i64 (-7), .int .i64 7]) (.agg #[.int .i64 (-7), .int .i64 7])).run Try.prog w = .ok true w := fun w => by
    have := eq60 mk mk w
    rw [decide_eq_true (rfl : mk = mk)] at this
    exact this
  have k1 : (es.length : Int) + 1 ≤ c := by omega
  have k2 : (0 : Int) ≤ es.length := by omega
  have k3 : (es.length : Int) < (es.length : Int) + 1 := by omega
  have f0 := cell_regrown q0
  have f1 := cell_regrown q1
  have f2 := cell_regrown r0
  have f3 := cell_regrown r1
  have f4 := cell_regrown m0
  have f5 := cell_regrown m1
  go_enter Try.func13, Try.ntmps13
  go_wp2_with fail
  rw [← hU]
  clear hU
  refine wp_region_quiet_below (by kernel_rfl) (by kernel_rfl) ?_
  repeat (go_big_quiet_step (first | with_reducible exact CA _ _))
  refine wpQuiet_nil ?_
  intro x1 hw'
  have hbx1 : Below U.heap.size U x1 := by
    obtain ⟨⟨dq, osq⟩, hw''⟩ := hw'
    rw [hw'']
    exact below_regrown U dq osq
  clear hw' f0 f1 f2 f3 f4 f5 CA
  go_wp2_with fail
  go_ret
  exact ⟨rfl, below_step HB.out hbx1⟩
end Go.Proofs.Ytgfiofogcnnkhaa
