/- kura's bySides, in every world. -/
import Derived.Test.YtaebbfilgfkckaaKBA
import Derived.Test.YtaebbfilgfkckaaKBC
namespace Go.Proofs.Ytaebbfilgfkckaa
open Go.RowKit Go.Sort
open Go
/-- Those that the first is not joined with. -/
def sdO (P : Pt → List Int) (br : List Int) : Nat → List Int
  | 0 => []
  | k + 1 => if P ⟨iat br 0, iat br k⟩ = [] then sdO P br k ++ [iat br k] else sdO P br k
/-- Those that it is joined with. -/
def sdT (P : Pt → List Int) (br : List Int) : Nat → List Int
  | 0 => []
  | k + 1 => if P ⟨iat br 0, iat br k⟩ = [] then sdT P br k else sdT P br k ++ [iat br k]
theorem sd_len (P : Pt → List Int) (br : List Int) : ∀ k, (sdO P br k).length + (sdT P br k).length = k
  | 0 => rfl
  | k + 1 => by
    have := sd_len P br k
    unfold sdO sdT
    split <;> simp <;> omega
def sidesL (P : Pt → List Int) (br : List Int) : List Int := sdO P br br.length ++ sdT P br br.length
theorem eql25n (w : World) : (binOp .eql 25 (.slice none 0 0) (.slice none 0 0)).run Try.prog w = .ok (.bool true) w := by kernel_rfl
theorem eql25s (w : World) (a : Addr) (l c : Nat) : (binOp .eql 25 (.slice (some a) l c) (.slice none 0 0)).run Try.prog w = .ok (.bool false) w := by kernel_rfl
set_option maxRecDepth 100000 in
set_option maxHeartbeats 8000000 in
theorem bySides60 (p : Option Addr) (br : List Int) (cp B T b : Nat) (P : Pt → List Int) (w : World) (h : IHas w p br) (hw : WM w B T b P) (hl : br.length ≤ 4096) (hin : ∀ j, j < br.length → 0 ≤ iat br j ∧ iat br j ≤ 4096) : Calls Try.prog 60 #[.slice p br.length cp, .map (some b)] w fun e w' => ∃ p' c, e = .returned (.slice p' (sidesL P br).length c) ∧ IOwns w' w.heap.size (.slice p' (sidesL P br).length c) (sidesL P br) ∧ Below w.heap.size w w' := by
  have HH := hide h
  have HW := hide hw
  have HI := hide hin
  have HLN := hide (sd_len P br)
  have O0 : Hid (Two w w.heap.size (.slice none 0 0) (.slice none 0 0) (sdO P br 0) (sdT P br 0)) := ⟨IOwns.nil _ _, IOwns.nil _ _, fun j h => by simp [Value.ownBlock] at h⟩
  clear h hw hin
  go_enter Try.func60, Try.ntmps60
  go_wp2_with fail
  go_loopw [5, 6, 11] (fun t5 t6 t11 wr => ∃ (k : Nat) (p3 : Option Addr) (c3 : Nat) (p4 : Option Addr) (c4 : Nat), k ≤ br.length ∧ t11 = .int .i64 k ∧ t5 = .slice p3 (sdO P br k).length c3 ∧ t6 = .slice p4 (sdT P br k).length c4 ∧ Hid (Below w.heap.size w wr) ∧ Hid (Two wr w.heap.size (.slice p3 (sdO P br k).length c3) (.slice p4 (sdT P br k).length c4) (sdO P br k) (sdT P br k))) (fun _ _ t11 _ => br.length - (intOf t11).toNat)
  case atStart => exact ⟨0, none, 0, none, 0, by omega, rfl, rfl, rfl, Below.refl _ _, O0.out⟩
  case round =>
    obtain ⟨k, p3, c3, p4, c4, hk, rfl, rfl, rfl, HBr, HTr⟩ := hrel
    clear O0
    have hsz : w.heap.size ≤ wr.heap.size := HBr.out.size
    have hln := HLN.out k
    by_cases hlt : k < br.length
    · have j1 : (k : Int) < br.length := by omega
      have j0 : (0 : Int) < br.length := by omega
      obtain ⟨b1, off, rfl, hL⟩ : ∃ b1 off, p = some ⟨b1, off, none⟩ ∧ ILies w b1 off br := by
        rcases HH.out with e | e
        · rw [e] at hlt; simp at hlt
        · exact e
      have c0 := later HBr.out (hL k hlt)
      have c1 := later HBr.out (hL 0 (by omega))
      rw [Nat.add_zero] at c1
      have HO : Hid (sdO P br (k + 1) = if P ⟨iat br 0, iat br k⟩ = [] then sdO P br k ++ [iat br k] else sdO P br k) := rfl
      have HT : Hid (sdT P br (k + 1) = if P ⟨iat br 0, iat br k⟩ = [] then sdT P br k else sdT P br k ++ [iat br k]) := rfl
      have i1 := HI.out k hlt
      have i0 := HI.out 0 (by omega)
      obtain ⟨x, hx⟩ : ∃ x, iat br k = x := ⟨_, rfl⟩
      obtain ⟨y, hy⟩ : ∃ y, iat br 0 = y := ⟨_, rfl⟩
      rw [hx] at c0 HO HT i1
      rw [hy] at c1 HO HT i0
      obtain ⟨v, hv, hv0, hv1⟩ := (HW.out.later HBr.out).look (p := ⟨y, x⟩) ⟨i0.1, i0.2, i1.1, i1.2⟩
      have hv' : (Instr.lookup 93 (.map (some b)) (.agg #[.int .i64 y, .int .i64 x]) false).run Try.prog wr = .ok v wr := hv
      clear hL hx hy hv
      by_cases hP : P ⟨y, x⟩ = []
      · rw [if_pos hP] at HO HT
        have hvn : v = .slice none 0 0 := hv0 hP
        subst hvn
        have q1 := eql25n wr
        obtain ⟨p8, c8, E, ea, tw, hbE⟩ := HTr.out.push x hsz (by omega)
        have HBE := hide (HBr.out.trans hbE)
        rw [← HO.out] at ea tw
        rw [← HT.out] at tw
        have HTE := hide tw
        clear tw hbE hv0 hv1 hP
        go_wp2_with (at_builtin; refine wpList_run_append rfl (.tmp 23) (.tmp 25) 25 rfl 25 rfl _ _ _ E rfl rfl ea ?_)
        go_roundw
        case rel => exact ⟨k + 1, p8, c8, p4, c4, by omega, by go_num, rfl, by rw [HT.out], HBE.out, HTE.out⟩
        case measure => simp [intOf]; omega
      · rw [if_neg hP] at HO HT
        obtain ⟨g, c, hvs, _, _⟩ := hv1 hP
        subst hvs
        have q1 := eql25s wr ⟨g, 0, none⟩ (P ⟨y, x⟩).length c
        obtain ⟨p8, c8, E, ea, tw, hbE⟩ := HTr.out.swap.push x hsz (by omega)
        have HBE := hide (HBr.out.trans hbE)
        rw [← HT.out] at ea tw
        rw [← HO.out] at tw
        have HTE := hide tw.swap
        clear tw hbE hv0 hv1 hP
        go_wp2_with (at_builtin; refine wpList_run_append rfl (.tmp 27) (.tmp 29) 25 rfl 25 rfl _ _ _ E rfl rfl ea ?_)
        go_roundw
        case rel => exact ⟨k + 1, p3, c3, p8, c8, by omega, by go_num, by rw [HO.out], rfl, HBE.out, HTE.out⟩
        case measure => simp [intOf]; omega
    · have hke : k = br.length := by omega
      subst hke
      have j1 : ¬ (br.length : Int) < br.length := by omega
      obtain ⟨p9, c9, h9, m9, _, n9, _⟩ := HTr.out.snd.form
      injection h9 with h91 _ h93
      obtain ⟨v1, E, ea, o1, gr⟩ := append_ints HTr.out.fst p4 c4 (sdT P br br.length) (by rw [h91, h93]; exact n9) (by rw [h91]; exact m9) hsz (by omega)
      have HBE := hide (below_grown HBr.out HTr.out.fst (Nat.le_refl _) hsz gr)
      obtain ⟨p8, c8, h8, _⟩ := o1.form
      subst h8
      have HOE := hide o1
      have HSL : Hid (sdO P br br.length ++ sdT P br br.length = sidesL P br) := rfl
      rw [HSL.out] at HOE ea
      clear o1 gr h91 h93 m9 n9
      go_wp2_with (at_builtin; refine wpList_run_append rfl (.tmp 32) (.tmp 33) 25 rfl 25 rfl _ _ _ E rfl rfl ea ?_)
      go_ret
      exact ⟨p8, c8, rfl, HOE.out, HBE.out⟩
end Go.Proofs.Ytaebbfilgfkckaa
