/- The document's branch, in every world. -/
import Derived.Test.YtaebbfilgfkckaaA3
namespace Go.Proofs.Ytaebbfilgfkckaa
open Go.RowKit Go.Sort
open Go
/-- The degree that is wanted. -/
def wI (D : List Int) (k : Nat) : Int := if (ofD D 3 k).length = 0 then 4 else 3
def wK (D : List Int) (k : Nat) : Int := if (ofD D 3 k).length = 0 then 5 else 33
theorem wI_two (D : List Int) (k : Nat) : (wI D k = 4 ∧ wK D k = 5 ∧ (ofD D 3 k).length = 0) ∨ (wI D k = 3 ∧ wK D k = 33 ∧ (ofD D 3 k).length ≠ 0) := by
  unfold wI wK
  by_cases h : (ofD D 3 k).length = 0
  · rw [if_pos h, if_pos h]; exact Or.inl ⟨rfl, rfl, h⟩
  · rw [if_neg h, if_neg h]; exact Or.inr ⟨rfl, rfl, h⟩
theorem wI_yes {D : List Int} {k : Nat} (h : iat D k = 3) : wI D (k + 1) = 3 ∧ wK D (k + 1) = 33 := by
  have : (ofD D 3 (k + 1)).length ≠ 0 := by unfold ofD; rw [if_pos h]; simp
  unfold wI wK
  rw [if_neg this, if_neg this]
  exact ⟨rfl, rfl⟩
theorem wI_no {D : List Int} {k : Nat} (h : iat D k ≠ 3) : wI D (k + 1) = wI D k ∧ wK D (k + 1) = wK D k := by
  unfold wI wK
  rw [show ofD D 3 (k + 1) = ofD D 3 k by rw [ofD, if_neg h]]
  exact ⟨rfl, rfl⟩
theorem ofD_none {D : List Int} {d : Int} {n : Nat} (h : ∀ v, v < n → iat D v ≠ d) : ofD D d n = [] := by
  rw [List.eq_nil_iff_forall_not_mem]
  intro x hx
  obtain ⟨v, _, h1, h2⟩ := ofD_mem.1 hx
  exact h v h1 h2
theorem ofD_some {D : List Int} {d : Int} {n v : Nat} (hv : v < n) (h : iat D v = d) : (ofD D d n).length ≠ 0 := fun e => by
  have hm : (v : Int) ∈ ofD D d n := ofD_mem.2 ⟨v, rfl, hv, h⟩
  rw [List.eq_nil_of_length_eq_zero e] at hm
  cases hm
theorem br_fail {D : List Int} {n v : Nat} (hv : v < n) (h0 : iat D v ≠ 0) (h2 : iat D v ≠ 2) (hw : iat D v ≠ wI D n) : kdI D n = 0 ∧ brL D n = [] := by
  by_cases hd : dgOk (iat D v)
  · unfold dgOk at hd
    have hk : kdI D n = 0 := by
      unfold kdI
      split
      · rcases wI_two D n with ⟨e1, _, e3⟩ | ⟨e1, _, e3⟩
        · rw [e1] at hw
          exact absurd e3 (ofD_some hv (by omega))
        · rw [e1] at hw
          have := ofD_some (n := n) hv (show iat D v = 4 by omega)
          rw [if_neg (by omega), if_neg (by omega)]
      · rfl
    exact ⟨hk, by unfold brL; rw [hk]; rfl⟩
  · exact kd_bad hv hd
/-- The kind, where each node's degree is one of the three. -/
def bK (W : Int) (m : Nat) : Int := if W = 4 then (if m = 5 then 5 else 0) else (if m = 6 then 33 else 0)
theorem br_end {D : List Int} {n : Nat} (h : ∀ v, v < n → iat D v = 0 ∨ iat D v = 2 ∨ iat D v = wI D n) : kdI D n = bK (wI D n) (ofD D (wI D n) n).length ∧ brL D n = if kdI D n = 0 then [] else ofD D (wI D n) n := by
  have hd : ∀ v, v < n → dgOk (iat D v) := fun v hv => by
    unfold dgOk
    have := h v hv
    rcases wI_two D n with ⟨e1, _⟩ | ⟨e1, _⟩ <;> rw [e1] at this <;> omega
  have hk := kd_good hd
  rcases wI_two D n with ⟨e1, _, e3⟩ | ⟨e1, _, e3⟩
  · rw [e1] at h ⊢
    unfold bK
    rw [if_pos rfl]
    by_cases h5 : (ofD D 4 n).length = 5
    · rw [if_pos ⟨e3, h5⟩] at hk
      rw [if_pos h5, hk]
      exact ⟨rfl, by unfold brL; rw [hk]; rfl⟩
    · rw [if_neg (by omega), if_neg (by omega)] at hk
      rw [if_neg h5, hk]
      exact ⟨rfl, by unfold brL; rw [hk]; rfl⟩
  · rw [e1] at h ⊢
    have h4 : (ofD D 4 n).length = 0 := by rw [ofD_none fun v hv => by have := h v hv; omega]; rfl
    unfold bK
    rw [if_neg (by decide)]
    by_cases h6 : (ofD D 3 n).length = 6
    · rw [if_neg (by omega), if_pos ⟨h6, h4⟩] at hk
      rw [if_pos h6, hk]
      exact ⟨rfl, by unfold brL; rw [hk]; rfl⟩
    · rw [if_neg (by omega), if_neg (by omega)] at hk
      rw [if_neg h6, hk]
      exact ⟨rfl, by unfold brL; rw [hk]; rfl⟩
set_option maxRecDepth 100000 in
set_option maxHeartbeats 16000000 in
theorem branch33 (n g B : Nat) (D : List Int) (w : World) (hD : IRow w B g n D) (hn : n ≤ 1024) : Calls Try.prog 33 #[.slice (some ⟨g, 0, none⟩) n n] w fun e w' => ∃ p c, e = .returned (.tuple #[.slice p (brL D n).length c, .int .i64 (kdI D n)]) ∧ IOwns w' w.heap.size (.slice p (brL D n).length c) (brL D n) ∧ Below w.heap.size w w' := by
  have HD := hide hD
  have HFAIL : Hid (∀ v, v < n → iat D v ≠ 0 → iat D v ≠ 2 → iat D v ≠ wI D n → kdI D n = 0 ∧ brL D n = []) := fun v h1 h2 h3 h4 => br_fail h1 h2 h3 h4
  have HEND : Hid ((∀ v, v < n → iat D v = 0 ∨ iat D v = 2 ∨ iat D v = wI D n) → kdI D n = bK (wI D n) (ofD D (wI D n) n).length ∧ brL D n = if kdI D n = 0 then [] else ofD D (wI D n) n) := fun h => br_end h
  have HW := hide (wI_two D n)
  clear hD
  go_enter Try.func33, Try.ntmps33
  go_wp2_with fail
  go_loopw [5, 6, 7] (fun t5 t6 t7 wr => ∃ k : Nat, k ≤ n ∧ t7 = .int .i64 k ∧ t5 = .int .i64 (wI D k) ∧ t6 = .int .i64 (wK D k) ∧ Hid (Below w.heap.size w wr)) (fun _ _ t7 _ => n - (intOf t7).toNat)
  case atStart => exact ⟨0, by omega, rfl, rfl, rfl, Below.refl _ _⟩
  case round =>
    obtain ⟨k, hk, rfl, rfl, rfl, HBr⟩ := hrel
    by_cases hlt : k < n
    · have j1 : (k : Int) < n := by omega
      obtain ⟨c0, _⟩ := (HD.out.later HBr.out).cell (j := k) (by omega)
      have H3 : Hid (iat D k = 3 → wI D (k + 1) = 3 ∧ wK D (k + 1) = 33) := wI_yes
      have HN : Hid (iat D k ≠ 3 → wI D (k + 1) = wI D k ∧ wK D (k + 1) = wK D k) := wI_no
      obtain ⟨d, hd⟩ : ∃ d, iat D k = d := ⟨_, rfl⟩
      obtain ⟨x, hx⟩ : ∃ d, wI D k = d := ⟨_, rfl⟩
      obtain ⟨y, hy⟩ : ∃ d, wK D k = d := ⟨_, rfl⟩
      rw [hd] at c0 H3 HN
      rw [hx, hy] at HN ⊢
      clear hd hx hy
      by_cases d3 : d = 3
      · subst d3
        have HX := hide (H3.out rfl)
        go_wp2
        go_roundw
        case rel => exact ⟨k + 1, by omega, by go_num, by rw [HX.out.1], by rw [HX.out.2], HBr.out⟩
        case measure => simp [intOf]; omega
      · have e3 : (d == 3) = false := by rw [beq_eq_false_iff_ne]; exact d3
        have HX := hide (HN.out d3)
        go_wp2
        go_roundw
        case rel => exact ⟨k + 1, by omega, by go_num, by rw [HX.out.1], by rw [HX.out.2], HBr.out⟩
        case measure => simp [intOf]; omega
    · have hkn : k = n := by omega
      have j1 : ¬ (k : Int) < n := by omega
      rw [hkn]
      clear hkn
      obtain ⟨W, hW⟩ : ∃ d, wI D n = d := ⟨_, rfl⟩
      obtain ⟨K, hK⟩ : ∃ d, wK D n = d := ⟨_, rfl⟩
      rw [hW] at HFAIL HEND
      rw [hW, hK] at HW ⊢
      clear hW hK
      have O0 : Hid (IOwns wr wr.heap.size (.slice none 0 0) (ofD D W 0)) := IOwns.nil _ _
      have HB1 := hide HBr.out
      have HD1 := hide (HD.out.later HBr.out)
      clear HBr HD
      go_wp2_with fail
      go_loopw [4, 8] (fun t4 t8 wr2 => ∃ (k : Nat) (p : Option Addr) (c : Nat), k ≤ n ∧ t8 = .int .i64 k ∧ t4 = .slice p (ofD D W k).length c ∧ Hid (Below wr.heap.size wr wr2) ∧ Hid (IOwns wr2 wr.heap.size (.slice p (ofD D W k).length c) (ofD D W k)) ∧ Hid (∀ v, v < k → iat D v = 0 ∨ iat D v = 2 ∨ iat D v = W)) (fun _ t8 _ => n - (intOf t8).toNat)
      case atStart => exact ⟨0, none, 0, by omega, rfl, rfl, Below.refl _ _, O0.out, fun v hv => by omega⟩
      case round =>
        obtain ⟨k, p, c, hk, rfl, rfl, HBr, HOr, HDr⟩ := hrel
        clear O0
        have hsz := HBr.out.size
        have hW34 : W = 3 ∨ W = 4 := by rcases HW.out with ⟨e, _⟩ | ⟨e, _⟩ <;> omega
        by_cases hlt : k < n
        · have j1 : (k : Int) < n := by omega
          obtain ⟨c0, _⟩ := (HD1.out.later HBr.out).cell (j := k) (by omega)
          have HO : Hid (ofD D W (k + 1) = if iat D k = W then ofD D W k ++ [(k : Int)] else ofD D W k) := rfl
          have HDN : Hid ((iat D k = 0 ∨ iat D k = 2 ∨ iat D k = W) → ∀ v, v < k + 1 → iat D v = 0 ∨ iat D v = 2 ∨ iat D v = W) := fun hd v hv => by
            by_cases e : v = k
            · rw [e]; exact hd
            · exact HDr.out v (by omega)
          have HBAD := hide (HFAIL.out k hlt)
          have ll := ofD_le D W k
          obtain ⟨d, hd⟩ : ∃ d, iat D k = d := ⟨_, rfl⟩
          rw [hd] at c0 HO HDN HBAD
          clear hd
          by_cases d0 : d = 0
          · subst d0
            rw [if_neg (by omega)] at HO
            have HX := hide (HDN.out (Or.inl rfl))
            go_wp2
            go_roundw
            case rel => exact ⟨k + 1, p, c, by omega, by go_num, by rw [HO.out], HBr.out, by show IOwns _ _ _ _; rw [HO.out]; exact HOr.out, HX.out⟩
            case measure => simp [intOf]; omega
          have e0 : (d == 0) = false := by rw [beq_eq_false_iff_ne]; exact d0
          by_cases d2 : d = 2
          · subst d2
            rw [if_neg (by omega)] at HO
            have HX := hide (HDN.out (Or.inr (Or.inl rfl)))
            go_wp2
            go_roundw
            case rel => exact ⟨k + 1, p, c, by omega, by go_num, by rw [HO.out], HBr.out, by show IOwns _ _ _ _; rw [HO.out]; exact HOr.out, HX.out⟩
            case measure => simp [intOf]; omega
          have e2 : (d == 2) = false := by rw [beq_eq_false_iff_ne]; exact d2
          by_cases dW : d = W
          · subst dW
            rw [if_pos rfl] at HO
            have HX := hide (HDN.out (Or.inr (Or.inr rfl)))
            obtain ⟨v1, E, ea, o1, hbE⟩ := push_int HOr.out (k : Int) hsz (by omega)
            rw [← HO.out] at o1
            obtain ⟨p8, c8, h8, _⟩ := o1.form
            have HBE := hide (HBr.out.trans hbE)
            subst h8
            have HOE := hide o1
            clear o1 hbE
            go_wp2_with (at_builtin; refine wpList_run_append rfl (.tmp 36) (.tmp 38) 25 rfl 25 rfl _ _ _ E rfl rfl ea ?_)
            go_roundw
            case rel => exact ⟨k + 1, p8, c8, by omega, by go_num, rfl, HBE.out, HOE.out, HX.out⟩
            case measure => simp [intOf]; omega
          have eW : (d == W) = false := by rw [beq_eq_false_iff_ne]; exact dW
          have HF := hide (HBAD.out d0 d2 dW)
          have HE := hide (below_step HB1.out HBr.out)
          go_wp2
          go_ret2
          exact ⟨none, 0, by rw [HF.out.1, HF.out.2]; rfl, by rw [HF.out.2]; exact IOwns.nil _ _, HE.out⟩
        · have hkn : k = n := by omega
          have j1 : ¬ (k : Int) < n := by omega
          rw [hkn] at HOr HDr ⊢
          rw [hkn] at j1
          have HX := hide (HEND.out HDr.out)
          have HE := hide (below_step HB1.out HBr.out)
          have HOW := hide (HOr.out.base HB1.out.size)
          clear hkn HEND HFAIL HBr HDr
          rcases HW.out with ⟨rfl, rfl, _⟩ | ⟨rfl, rfl, _⟩
          · by_cases h5 : (ofD D 4 n).length = 5
            · have HK : Hid (kdI D n = 5 ∧ brL D n = ofD D 4 n) := by
                obtain ⟨a, b⟩ := HX.out
                have a' : kdI D n = 5 := by rw [a, h5]; rfl
                rw [a', if_neg (by decide)] at b
                exact ⟨a', b⟩
              rw [h5] at HOW ⊢
              go_wp2
              go_ret2
              exact ⟨p, c, by rw [HK.out.1, HK.out.2, h5]; rfl, by rw [HK.out.2, h5]; exact HOW.out, HE.out⟩
            · have HK : Hid (kdI D n = 0 ∧ brL D n = []) := by
                obtain ⟨a, b⟩ := HX.out
                have a' : kdI D n = 0 := by rw [a]; unfold bK; rw [if_pos rfl, if_neg h5]
                rw [a', if_pos rfl] at b
                exact ⟨a', b⟩
              have f5 : (((ofD D 4 n).length : Int) == 5) = false := by rw [beq_eq_false_iff_ne]; omega
              obtain ⟨m, hm⟩ : ∃ m, (ofD D 4 n).length = m := ⟨_, rfl⟩
              rw [hm] at f5 ⊢
              go_wp2
              go_ret2
              exact ⟨none, 0, by rw [HK.out.1, HK.out.2]; rfl, by rw [HK.out.2]; exact IOwns.nil _ _, HE.out⟩
          · by_cases h5 : (ofD D 3 n).length = 6
            · have HK : Hid (kdI D n = 33 ∧ brL D n = ofD D 3 n) := by
                obtain ⟨a, b⟩ := HX.out
                have a' : kdI D n = 33 := by rw [a, h5]; rfl
                rw [a', if_neg (by decide)] at b
                exact ⟨a', b⟩
              rw [h5] at HOW ⊢
              go_wp2
              go_ret2
              exact ⟨p, c, by rw [HK.out.1, HK.out.2, h5]; rfl, by rw [HK.out.2, h5]; exact HOW.out, HE.out⟩
            · have HK : Hid (kdI D n = 0 ∧ brL D n = []) := by
                obtain ⟨a, b⟩ := HX.out
                have a' : kdI D n = 0 := by rw [a]; unfold bK; rw [if_neg (by decide), if_neg h5]
                rw [a', if_pos rfl] at b
                exact ⟨a', b⟩
              have f5 : (((ofD D 3 n).length : Int) == 6) = false := by rw [beq_eq_false_iff_ne]; omega
              obtain ⟨m, hm⟩ : ∃ m, (ofD D 3 n).length = m := ⟨_, rfl⟩
              rw [hm] at f5 ⊢
              go_wp2
              go_ret2
              exact ⟨none, 0, by rw [HK.out.1, HK.out.2]; rfl, by rw [HK.out.2]; exact IOwns.nil _ _, HE.out⟩
end Go.Proofs.Ytaebbfilgfkckaa
