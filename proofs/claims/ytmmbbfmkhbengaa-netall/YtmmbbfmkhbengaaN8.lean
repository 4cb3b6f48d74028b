/- Out, in every world. -/
import Derived.Test.YtmmbbfmkhbengaaN6
import Derived.Test.YtmmbbfmkhbengaaN7
namespace Go.Proofs.Ytmmbbfmkhbengaa
open Go.RowKit Go.Sort
open Go

theorem index60a (r : Pt) (w : World) : (Instr.index 60 (.agg #[.int .i64 r.x, .int .i64 r.y]) (.int .i64 0)).run Try.prog w = .ok (.int .i64 r.x) w := by kernel_rfl
theorem index60b (r : Pt) (w : World) : (Instr.index 60 (.agg #[.int .i64 r.x, .int .i64 r.y]) (.int .i64 1)).run Try.prog w = .ok (.int .i64 r.y) w := by kernel_rfl
def sideN (T : List Int) (i : Nat) (r : Pt) (v : Int) : Nat → List Int
  | 0 => T
  | 1 => T ++ if r.x = v then [2 * (i : Int)] else []
  | _ => (T ++ if r.x = v then [2 * (i : Int)] else []) ++ if r.y = v then [2 * (i : Int) + 1] else []
def outN (es : List Pt) (v : Int) : Nat → List Int
  | 0 => []
  | i + 1 => sideN (outN es v i) i (at' es i) v 2
theorem sideN_length (T : List Int) (i : Nat) (r : Pt) (v : Int) (k : Nat) (hk : k ≤ 2) : (sideN T i r v k).length ≤ T.length + k := by
  match k, hk with
  | 0, _ => simp [sideN]
  | 1, _ => simp only [sideN, List.length_append]; split <;> simp
  | 2, _ => simp only [sideN, List.length_append]; split <;> split <;> simp
theorem outN_length (es : List Pt) (v : Int) : ∀ i, (outN es v i).length ≤ 2 * i
  | 0 => by simp [outN]
  | i + 1 => by
    have := outN_length es v i
    have := sideN_length (outN es v i) i (at' es i) v 2 (by omega)
    simp only [outN]
    omega
def OutPost (n : Int) (es : List Pt) (v : Int) (w : World) (e : Ending) (w' : World) : Prop :=
  (netB n es = true ∧ belowB v n = true ∧ ∃ s, e = .returned (.tuple #[s, .int .i64 0]) ∧ IOwns w' w.heap.size s (outN es v es.length)) ∨ (netB n es = true ∧ belowB v n = false ∧ e = .returned (.tuple #[.slice none 0 0, .int .i64 2])) ∨ (netB n es = false ∧ e = .returned (.tuple #[.slice none 0 0, .int .i64 1]))

set_option maxRecDepth 100000 in
set_option maxHeartbeats 4000000 in
theorem out26 (n : Int) (p : Option Addr) (es : List Pt) (cp : Nat) (v : Int) (w : World) (h : Has w p es) : Calls Try.prog 26 #[nv n p es.length cp, .int .i64 v] w fun e w' => OutPost n es v w e w' ∧ Below w.heap.size w w' := by
  obtain ⟨W, hW, hb, a0⟩ := one_net w n p es.length cp
  have M := hide (may13 n p es cp W (h.later hb))
  have HH := hide (h.later hb)
  have HB := hide hb
  have HA := hide a0
  obtain ⟨q0, q1, _, _⟩ := a0
  clear h hb
  obtain ⟨i0, hi0, hz0, hz1, hz2⟩ := info_parts info3
  cases hm : netB n es
  · rw [hm] at M
    go_enter Try.func26, Try.ntmps26
    go_wp2_with fail
    rw [← hW]
    clear hW
    go_wp2_with fail
    refine M.out.mono ?_
    rintro e w1 ⟨rfl, hb1⟩
    have HB1 := hide (below_step HB.out hb1)
    clear hb1 q0 q1
    go_wp2
    go_ret2
    exact ⟨Or.inr (Or.inr ⟨hm, rfl⟩), HB1.out⟩
  · rw [hm] at M
    obtain ⟨n0, n1, hes, _⟩ := netB_is hm
    have X := below36 v n
    go_enter Try.func26, Try.ntmps26
    go_wp2_with fail
    rw [← hW]
    clear hW
    go_wp2_with fail
    refine M.out.mono ?_
    rintro e w1 ⟨rfl, hb1⟩
    have HB1 := hide (below_step HB.out hb1)
    have HA1 := hide (HA.out.later hb1)
    have HH1 := hide (HH.out.later hb1)
    clear q0 q1 hb1 HA HB HH M
    obtain ⟨q0, q1, _, _⟩ := HA1.out
    cases hv : belowB v n
    · rw [hv] at X
      go_wp2_with (go_at_call 36; refine (X _).mono ?_; rintro e w' ⟨rfl, rfl⟩)
      go_ret2
      exact ⟨Or.inr (Or.inl ⟨hm, hv, rfl⟩), HB1.out⟩
    · rw [hv] at X
      go_wp2_with (go_at_call 36; refine (X _).mono ?_; rintro e w' ⟨rfl, hw⟩; have hw := hw.symm; subst hw)
      go_loopw [6, 22] (fun s t wr => ∃ i : Nat, i ≤ es.length ∧ t = .int .i64 i ∧ Hid (Below w1.heap.size w1 wr) ∧ Hid (IOwns wr w1.heap.size s (outN es v i))) (fun _ t _ => es.length - (intOf t).toNat)
      case atStart => exact ⟨0, by omega, rfl, Below.refl _ _, IOwns.nil _ _⟩
      case round =>
        obtain ⟨i, hi, rfl, HBr, HO⟩ := hrel
        by_cases hlt : i < es.length
        · rcases HH1.out.later HBr.out with h | ⟨b, off, rfl, hL⟩
          · subst h; simp at hlt
          obtain ⟨c0, c1⟩ := hL i hlt
          have hD : Hid (outN es v (i + 1) = sideN (outN es v i) i (at' es i) v 2) := rfl
          have hTl := outN_length es v i
          obtain ⟨T, hTT⟩ : ∃ T, outN es v i = T := ⟨_, rfl⟩
          rw [hTT] at hD HO hTl
          obtain ⟨r, hr⟩ : ∃ r, at' es i = r := ⟨_, rfl⟩
          rw [hr] at c0 c1 hD
          clear hL hTT hr
          have zb : b < wr.heap.size := block_lt_of_cell c0
          obtain ⟨p1, k1, rfl, _, _, _, _⟩ := HO.out.form
          go_wp2_with fail
          obtain ⟨U, hU⟩ : ∃ U, U = wr.alloc (bx r) := ⟨_, rfl⟩
          have hbU : Below wr.heap.size wr U := by rw [hU]; go_grown
          have HBU := hide (Below.trans HBr.out (hbU.mono HBr.out.size))
          have HOU := hide (HO.out.later hbU)
          rw [show wr.alloc (bx r) = U from hU.symm]
          clear hU hbU
          go_loopw [6, 28] (fun s t wq => ∃ k : Nat, k ≤ 2 ∧ t = .int .i64 k ∧ Hid (Below w1.heap.size w1 wq) ∧ Hid (IOwns wq w1.heap.size s (sideN T i r v k))) (fun _ t _ => 2 - (intOf t).toNat)
          case atStart => exact ⟨0, by omega, rfl, HBU.out, HOU.out⟩
          case round =>
            obtain ⟨k, hk, rfl, HBq, HOq⟩ := hrel
            have hsl := sideN_length T i r v k hk
            obtain ⟨p0, c, rfl, _, _, _, _⟩ := HOq.out.form
            have hsz := HBq.out.size
            obtain ⟨S, hSS⟩ : ∃ S, sideN T i r v k = S := ⟨_, rfl⟩
            rw [hSS] at HOq hsl ⊢
            have hOW : wr.ownsRow w1.heap.size 3 1 (.slice p0 S.length c) S.length (icells S) := HOq.out
            rcases (by omega : k = 0 ∨ k = 1 ∨ k = 2) with rfl | rfl | rfl
            · have ix := index60a r
              have h1 : Hid (sideN T i r v 1 = S ++ if r.x = v then [2 * (i : Int)] else []) := by show _ = _; rw [← hSS]; rfl
              clear hSS
              by_cases hx : r.x = v
              · rw [if_pos hx] at h1
                have hxb : (r.x == v) = true := by simpa using hx
                clear hx
                go_wp2_with (at_builtin; refine wpList_append_own _ rfl _ _ 25 rfl w1.heap.size 3 i0 (.int .i64 0) 1 8 Try.underlying25 hi0 hz0 hz1 hz2 rfl (by decide) _ _ _ rfl (World.ownsRow.alloc hOW _) ⟨wr.heap.size, 0, none⟩ 1 1 [.int .i64 (2 * (i : Int))] rfl rfl ?c1 ?c2 ?c3 ?c4 ?c5 ?_)
                case c1 =>
                  intro j u hj
                  match j, hj with
                  | 0, hj => simp at hj; subst hj; simp [Addr.add]
                case c2 => intro u hu; simp at hu; subst hu; rfl
                case c3 => unfold maxLen; omega
                case c4 => omega
                case c5 => simp; omega
                intro v' w3 hown' hgrow _
                have ho := hide (iowns_more hown')
                have hbg : Below w1.heap.size wr w3 := below_grown (w := wr.alloc (.cells #[.int .i64 (2 * (i : Int))] 3)) (by go_grown) (World.ownsRow.alloc hOW _) (Nat.le_refl _) (by simp; omega) hgrow
                have HBg := hide hbg
                clear hown' hgrow hbg hOW
                go_wp2
                go_roundw
                case rel => exact ⟨1, by omega, by go_num, Below.trans HBq.out HBg.out, by rw [h1.out]; exact ho.out⟩
                case measure => simp [intOf]
              · rw [if_neg hx, List.append_nil] at h1
                have hxb : (r.x == v) = false := by simpa using hx
                clear hOW
                go_wp2
                go_roundw
                case rel => exact ⟨1, by omega, by go_num, HBq.out, by rw [h1.out]; exact HOq.out⟩
                case measure => simp [intOf]
            · have ix := index60b r
              have h1 : Hid (sideN T i r v 2 = S ++ if r.y = v then [2 * (i : Int) + 1] else []) := by show _ = _; rw [← hSS]; rfl
              clear hSS
              by_cases hx : r.y = v
              · rw [if_pos hx] at h1
                have hxb : (r.y == v) = true := by simpa using hx
                clear hx
                go_wp2_with (at_builtin; refine wpList_append_own _ rfl _ _ 25 rfl w1.heap.size 3 i0 (.int .i64 0) 1 8 Try.underlying25 hi0 hz0 hz1 hz2 rfl (by decide) _ _ _ rfl (World.ownsRow.alloc hOW _) ⟨wr.heap.size, 0, none⟩ 1 1 [.int .i64 (2 * (i : Int) + 1)] rfl rfl ?c6 ?c7 ?c8 ?c9 ?c10 ?_)
                case c6 =>
                  intro j u hj
                  match j, hj with
                  | 0, hj => simp at hj; subst hj; simp [Addr.add]
                case c7 => intro u hu; simp at hu; subst hu; rfl
                case c8 => unfold maxLen; omega
                case c9 => omega
                case c10 => simp; omega
                intro v' w3 hown' hgrow _
                have ho := hide (iowns_more hown')
                have hbg : Below w1.heap.size wr w3 := below_grown (w := wr.alloc (.cells #[.int .i64 (2 * (i : Int) + 1)] 3)) (by go_grown) (World.ownsRow.alloc hOW _) (Nat.le_refl _) (by simp; omega) hgrow
                have HBg := hide hbg
                clear hown' hgrow hbg hOW
                go_wp2
                go_roundw
                case rel => exact ⟨2, by omega, by go_num, Below.trans HBq.out HBg.out, by rw [h1.out]; exact ho.out⟩
                case measure => simp [intOf]
              · rw [if_neg hx, List.append_nil] at h1
                have hxb : (r.y == v) = false := by simpa using hx
                clear hOW
                go_wp2
                go_roundw
                case rel => exact ⟨2, by omega, by go_num, HBq.out, by rw [h1.out]; exact HOq.out⟩
                case measure => simp [intOf]
            · have h2 : Hid (outN es v (i + 1) = S) := by show _ = _; rw [hD.out, ← hSS]
              clear hSS hOW
              go_wp2
              go_roundw
              case rel => exact ⟨i + 1, by omega, by go_num, HBq.out, by rw [h2.out]; exact HOq.out⟩
              case measure => simp [intOf]; omega
        · have hin : i = es.length := by omega
          subst hin
          have hs := HB1.out.size
          obtain ⟨p0, c, rfl, _, _, _, _⟩ := HO.out.form
          go_wp2
          go_ret2
          exact ⟨Or.inl ⟨hm, hv, _, rfl, HO.out.base hs⟩, below_step HB1.out HBr.out⟩
end Go.Proofs.Ytmmbbfmkhbengaa
