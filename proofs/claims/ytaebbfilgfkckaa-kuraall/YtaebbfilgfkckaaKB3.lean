/- kura: beside, byDegrees, in every world. -/
import Derived.Test.YtaebbfilgfkckaaKB2
import Derived.Test.YtaebbfilgfkckaaNC
namespace Go.Proofs.Ytaebbfilgfkckaa
open Go.RowKit Go.Sort
open Go
/-- Of two numbers the one that is not this. -/
def besI (l : List Int) (t : Int) : Int := if iat l 0 = t then iat l 1 else iat l 0
set_option maxRecDepth 100000 in
set_option maxHeartbeats 4000000 in
theorem beside74 (p : Option Addr) (l : List Int) (cp : Nat) (t : Int) (w : World) (h : IHas w p l) (h2 : l.length = 2) : Calls Try.prog 74 #[.slice p 2 cp, .int .i64 t] w fun e w' => e = .returned (.int .i64 (besI l t)) ∧ Below w.heap.size w w' := by
  rcases h with h0 | ⟨b, off, rfl, hL⟩
  · subst h0; simp at h2
  have c0 := hL 0 (by omega)
  have c1 := hL 1 (by omega)
  obtain ⟨x, hx⟩ : ∃ x, iat l 0 = x := ⟨_, rfl⟩
  obtain ⟨y, hy⟩ : ∃ y, iat l 1 = y := ⟨_, rfl⟩
  have HB : Hid (besI l t = if x = t then y else x) := by show _ = _; unfold besI; rw [hx, hy]
  rw [hx] at c0
  rw [hy] at c1
  rw [Nat.add_zero] at c0
  clear hx hy hL h2
  by_cases he : x = t
  · subst he
    rw [if_pos rfl] at HB
    go_enter Try.func74, Try.ntmps74
    go_wp2
    go_ret
    exact ⟨retI (by rw [HB.out]), Below.refl _ _⟩
  · have t1 : (x == t) = false := by rw [beq_eq_false_iff_ne]; exact he
    rw [if_neg he] at HB
    go_enter Try.func74, Try.ntmps74
    go_wp2
    go_ret
    exact ⟨retI (by rw [HB.out]), Below.refl _ _⟩
/-- The nodes below k of a degree. -/
def ofD (D : List Int) (d : Int) : Nat → List Int
  | 0 => []
  | k + 1 => if iat D k = d then ofD D d k ++ [(k : Int)] else ofD D d k
theorem ofD_le (D : List Int) (d : Int) : ∀ k, (ofD D d k).length ≤ k
  | 0 => Nat.le_refl _
  | k + 1 => by
    have := ofD_le D d k
    unfold ofD
    split
    · rw [List.length_append]; simp; omega
    · omega
/-- Degrees that a subdivision may have. -/
def dgOk (d : Int) : Prop := d = 0 ∨ d = 2 ∨ d = 3 ∨ d = 4
instance (d : Int) : Decidable (dgOk d) := by unfold dgOk; infer_instance
/-- The kind that the degrees allow. -/
def kdI (D : List Int) (n : Nat) : Int := if ∀ v, v < n → dgOk (iat D v) then (if (ofD D 3 n).length = 0 ∧ (ofD D 4 n).length = 5 then 5 else if (ofD D 3 n).length = 6 ∧ (ofD D 4 n).length = 0 then 33 else 0) else 0
def brL (D : List Int) (n : Nat) : List Int := if kdI D n = 5 then ofD D 4 n else if kdI D n = 33 then ofD D 3 n else []
theorem kd_bad {D : List Int} {n v : Nat} (hv : v < n) (h : ¬ dgOk (iat D v)) : kdI D n = 0 ∧ brL D n = [] := by
  have : kdI D n = 0 := by unfold kdI; rw [if_neg fun k => h (k v hv)]
  exact ⟨this, by unfold brL; rw [this]; rfl⟩
theorem kd_good {D : List Int} {n : Nat} (h : ∀ v, v < n → dgOk (iat D v)) : kdI D n = if (ofD D 3 n).length = 0 ∧ (ofD D 4 n).length = 5 then 5 else if (ofD D 3 n).length = 6 ∧ (ofD D 4 n).length = 0 then 33 else 0 := by
  unfold kdI
  rw [if_pos h]
/-- Two lists of one's own, in blocks of their own. -/
structure Two (w : World) (B : Nat) (a b : Value) (la lb : List Int) : Prop where
  fst : IOwns w B a la
  snd : IOwns w B b lb
  ne : ∀ j, a.ownBlock = some j → b.ownBlock ≠ some j
theorem Two.swap {w : World} {B : Nat} {a b : Value} {la lb : List Int} (h : Two w B a b la lb) : Two w B b a lb la := ⟨h.snd, h.fst, fun j h1 h2 => h.ne j h2 h1⟩
/-- A number behind the first. -/
theorem Two.push {w : World} {B : Nat} {a b : Value} {la lb : List Int} (h : Two w B a b la lb) (x : Int) (hB : B ≤ w.heap.size) (hl : la.length ≤ 80000) : ∃ p c D, (Builtin.append_ #[25, 25] 25 #[a, .slice (some ⟨w.heap.size, 0, none⟩) 1 1]).run Try.prog (w.alloc (.cells #[.int .i64 x] 3)) = .ok (.slice p (la ++ [x]).length c) D ∧ Two D B (.slice p (la ++ [x]).length c) b (la ++ [x]) lb ∧ Below B w D := by
  have hbU : Below w.heap.size w (w.alloc (.cells #[.int .i64 x] 3)) := by go_grown
  obtain ⟨v1, D, ea, o1, gr, at1⟩ := append_int (h.fst.later hbU) (one_int w x) (by have := hbU.size; omega) (by omega)
  have hbD : Below B w D := below_grown (hbU.mono hB) (h.fst.later hbU) (Nat.le_refl _) (by have := hbU.size; omega) gr
  obtain ⟨p8, c8, h8, _⟩ := o1.form
  subst h8
  have hs := (h.snd.later hbU)
  refine ⟨p8, c8, D, ea, ⟨o1, World.ownsRow.kept hs gr ?_, fun j h1 h2 => ?_⟩, hbD⟩
  · cases hb : b.ownBlock with
    | none => exact Or.inl rfl
    | some j => exact Or.inr fun e => h.ne j e.symm hb
  · rcases at1 with e | e
    · rw [e] at h1; exact h.ne j h1 h2
    · rw [e] at h1
      injection h1 with h1
      have := (World.ownsRow.lt hs j h2).2
      omega
set_option maxRecDepth 100000 in
set_option maxHeartbeats 16000000 in
theorem byDegrees58 (n : Nat) (p : Option Addr) (es : List Pt) (cp : Nat) (w : World) (h : Has w p es) (hm : netB n es = true) : Calls Try.prog 58 #[nv n p es.length cp] w fun e w' => ∃ p' c, e = .returned (.tuple #[.int .i64 (kdI (degN es n es.length) n), .slice p' (brL (degN es n es.length) n).length c]) ∧ IOwns w' w.heap.size (.slice p' (brL (degN es n es.length) n).length c) (brL (degN es n es.length) n) ∧ Below w.heap.size w w' := by
  obtain ⟨W, hW, hb0, a0⟩ := one_net w n p es.length cp
  obtain ⟨n0, n1, hes, _⟩ := netB_is hm
  have DG := hide (degrees25 n p es cp W (h.later hb0))
  have HB := hide hb0
  have HM := hide hm
  have HWS : Hid (w.heap.size ≤ W.heap.size) := hb0.size
  obtain ⟨q0, q1, _, _⟩ := a0
  obtain ⟨D, hDD⟩ : ∃ D, degN es n es.length = D := ⟨_, rfl⟩
  rw [hDD]
  clear h hb0 hm
  go_enter Try.func58, Try.ntmps58
  go_upto_region 1 with fail
  rw [← hW]
  clear hW
  go_wp2_with fail
  refine DG.out.mono ?_
  rintro r w1 ⟨hp, hb1⟩
  have HB1 := hide hb1
  rcases hp with ⟨_, g, rfl, hD⟩ | ⟨h1, _⟩
  rotate_left
  · rw [HM.out] at h1; cases h1
  rw [Int.toNat_natCast] at hD
  have HD1 := hide hD
  rw [hDD] at HD1
  clear DG hb1 hD q0 q1 hDD
  have O0 : Hid (Two w1 w1.heap.size (.slice none 0 0) (.slice none 0 0) (ofD D 3 0) (ofD D 4 0)) := ⟨IOwns.nil _ _, IOwns.nil _ _, fun j h => by simp [Value.ownBlock] at h⟩
  go_wp2_with fail
  go_loopw [6, 7, 17] (fun t6 t7 t17 wr => ∃ (k : Nat) (p3 : Option Addr) (c3 : Nat) (p4 : Option Addr) (c4 : Nat), k ≤ n ∧ t17 = .int .i64 k ∧ t6 = .slice p3 (ofD D 3 k).length c3 ∧ t7 = .slice p4 (ofD D 4 k).length c4 ∧ Hid (Below w1.heap.size w1 wr) ∧ Hid (Two wr w1.heap.size (.slice p3 (ofD D 3 k).length c3) (.slice p4 (ofD D 4 k).length c4) (ofD D 3 k) (ofD D 4 k)) ∧ Hid (∀ v, v < k → dgOk (iat D v))) (fun _ _ t17 _ => n - (intOf t17).toNat)
  case atStart => exact ⟨0, none, 0, none, 0, by omega, rfl, rfl, rfl, Below.refl _ _, O0.out, fun v hv => by omega⟩
  case round =>
    obtain ⟨k, p3, c3, p4, c4, hk, rfl, rfl, rfl, HBr, HTr, HDr⟩ := hrel
    clear O0
    have hsz : w1.heap.size ≤ wr.heap.size := HBr.out.size
    by_cases hlt : k < n
    · have j1 : (k : Int) < n := by omega
      obtain ⟨c0, _⟩ := (HD1.out.later HBr.out).cell (j := k) (by omega)
      have H3 : Hid (ofD D 3 (k + 1) = if iat D k = 3 then ofD D 3 k ++ [(k : Int)] else ofD D 3 k) := rfl
      have H4 : Hid (ofD D 4 (k + 1) = if iat D k = 4 then ofD D 4 k ++ [(k : Int)] else ofD D 4 k) := rfl
      have HDN : Hid (dgOk (iat D k) → ∀ v, v < k + 1 → dgOk (iat D v)) := fun hd v hv => by
        by_cases e : v = k
        · rw [e]; exact hd
        · exact HDr.out v (by omega)
      have HBAD : Hid (¬ dgOk (iat D k) → kdI D n = 0 ∧ brL D n = []) := fun h => kd_bad hlt h
      have l3 := ofD_le D 3 k
      have l4 := ofD_le D 4 k
      obtain ⟨d, hd⟩ : ∃ d, iat D k = d := ⟨_, rfl⟩
      rw [hd] at c0 H3 H4 HDN HBAD
      clear hd
      by_cases d0 : d = 0
      · subst d0
        rw [if_neg (by omega)] at H3 H4
        have HX := hide (HDN.out (Or.inl rfl))
        go_wp2
        go_roundw
        case rel => exact ⟨k + 1, p3, c3, p4, c4, by omega, by go_num, by rw [H3.out], by rw [H4.out], HBr.out, by show Two _ _ _ _ _ _; rw [H3.out, H4.out]; exact HTr.out, HX.out⟩
        case measure => simp [intOf]; omega
      have e0 : (d == 0) = false := by rw [beq_eq_false_iff_ne]; exact d0
      by_cases d2 : d = 2
      · subst d2
        rw [if_neg (by omega)] at H3 H4
        have HX := hide (HDN.out (Or.inr (Or.inl rfl)))
        go_wp2
        go_roundw
        case rel => exact ⟨k + 1, p3, c3, p4, c4, by omega, by go_num, by rw [H3.out], by rw [H4.out], HBr.out, by show Two _ _ _ _ _ _; rw [H3.out, H4.out]; exact HTr.out, HX.out⟩
        case measure => simp [intOf]; omega
      have e2 : (d == 2) = false := by rw [beq_eq_false_iff_ne]; exact d2
      by_cases d3 : d = 3
      · subst d3
        rw [if_pos rfl] at H3
        rw [if_neg (by omega)] at H4
        have HX := hide (HDN.out (Or.inr (Or.inr (Or.inl rfl))))
        obtain ⟨p8, c8, E, ea, tw, hbE⟩ := HTr.out.push (k : Int) hsz (by omega)
        have HBE := hide (HBr.out.trans hbE)
        rw [← H3.out] at ea tw
        rw [← H4.out] at tw
        have HTE := hide tw
        clear tw hbE
        go_wp2_with (at_builtin; refine wpList_run_append rfl (.tmp 28) (.tmp 30) 25 rfl 25 rfl _ _ _ E rfl rfl ea ?_)
        go_roundw
        case rel => exact ⟨k + 1, p8, c8, p4, c4, by omega, by go_num, rfl, by rw [H4.out], HBE.out, HTE.out, HX.out⟩
        case measure => simp [intOf]; omega
      have e3 : (d == 3) = false := by rw [beq_eq_false_iff_ne]; exact d3
      by_cases d4 : d = 4
      · subst d4
        rw [if_pos rfl] at H4
        rw [if_neg (by omega)] at H3
        have HX := hide (HDN.out (Or.inr (Or.inr (Or.inr rfl))))
        obtain ⟨p8, c8, E, ea, tw, hbE⟩ := HTr.out.swap.push (k : Int) hsz (by omega)
        have HBE := hide (HBr.out.trans hbE)
        rw [← H4.out] at ea tw
        rw [← H3.out] at tw
        have HTE := hide tw.swap
        clear tw hbE
        go_wp2_with (at_builtin; refine wpList_run_append rfl (.tmp 34) (.tmp 36) 25 rfl 25 rfl _ _ _ E rfl rfl ea ?_)
        go_roundw
        case rel => exact ⟨k + 1, p3, c3, p8, c8, by omega, by go_num, by rw [H3.out], rfl, HBE.out, HTE.out, HX.out⟩
        case measure => simp [intOf]; omega
      · have e4 : (d == 4) = false := by rw [beq_eq_false_iff_ne]; exact d4
        obtain ⟨y1, y2⟩ := HBAD.out (fun h => by rcases h with h | h | h | h <;> omega)
        have HE := hide (below_step HB.out (below_step HB1.out HBr.out))
        have HY := hide (And.intro y1 y2)
        clear y1 y2
        go_wp2
        go_ret2
        exact ⟨none, 0, by rw [HY.out.1, HY.out.2]; rfl, by rw [HY.out.2]; exact IOwns.nil _ _, HE.out⟩
    · have hke : k = n := by omega
      subst hke
      have j1 : ¬ (k : Int) < k := by omega
      have HKD := hide (kd_good HDr.out)
      have HBR : Hid (brL D k = if kdI D k = 5 then ofD D 4 k else if kdI D k = 33 then ofD D 3 k else []) := rfl
      have HE := hide (below_step HB.out (below_step HB1.out HBr.out))
      have HO3 : Hid (IOwns wr w.heap.size (.slice p3 (ofD D 3 k).length c3) (ofD D 3 k)) := HTr.out.fst.base (by have := HWS.out; have := HB1.out.size; omega)
      have HO4 : Hid (IOwns wr w.heap.size (.slice p4 (ofD D 4 k).length c4) (ofD D 4 k)) := HTr.out.snd.base (by have := HWS.out; have := HB1.out.size; omega)
      have l3 := ofD_le D 3 k
      have l4 := ofD_le D 4 k
      obtain ⟨a, ha⟩ : ∃ a, (ofD D 3 k).length = a := ⟨_, rfl⟩
      obtain ⟨b, hb⟩ : ∃ b, (ofD D 4 k).length = b := ⟨_, rfl⟩
      rw [ha, hb] at HKD
      rw [ha] at HO3 l3
      rw [hb] at HO4 l4
      have HAB := hide (And.intro ha hb)
      rw [ha, hb]
      clear HTr ha hb
      by_cases h1 : a = 0 ∧ b = 5
      · rw [if_pos h1] at HKD
        rw [HKD.out, if_pos rfl] at HBR
        obtain ⟨rfl, rfl⟩ := h1
        go_wp2
        go_ret2
        exact ⟨p4, c4, by rw [HKD.out, HBR.out, HAB.out.2]; rfl, by rw [HBR.out, HAB.out.2]; exact HO4.out, HE.out⟩
      · rw [if_neg h1] at HKD
        by_cases h2 : a = 6 ∧ b = 0
        · rw [if_pos h2] at HKD
          rw [HKD.out, if_neg (by decide), if_pos rfl] at HBR
          obtain ⟨rfl, rfl⟩ := h2
          go_wp2
          go_ret2
          exact ⟨p3, c3, by rw [HKD.out, HBR.out, HAB.out.1]; rfl, by rw [HBR.out, HAB.out.1]; exact HO3.out, HE.out⟩
        · rw [if_neg h2] at HKD
          rw [HKD.out, if_neg (by decide), if_neg (by decide)] at HBR
          have HBL : Hid (brL D k = []) := HBR.out
          by_cases e1 : a = 0
          · subst e1
            have t1 : ((b : Int) == 5) = false := by rw [beq_eq_false_iff_ne]; intro e; exact h1 ⟨rfl, by omega⟩
            clear h1 h2
            go_wp2
            go_ret2
            exact ⟨none, 0, by rw [HKD.out, HBL.out]; rfl, by rw [HBL.out]; exact IOwns.nil _ _, HE.out⟩
          · have t1 : ((a : Int) == 0) = false := by rw [beq_eq_false_iff_ne]; omega
            by_cases e2 : a = 6
            · subst e2
              have t2 : ((b : Int) == 0) = false := by rw [beq_eq_false_iff_ne]; intro e; exact h2 ⟨rfl, by omega⟩
              clear h1 h2
              go_wp2
              go_ret2
              exact ⟨none, 0, by rw [HKD.out, HBL.out]; rfl, by rw [HBL.out]; exact IOwns.nil _ _, HE.out⟩
            · have t2 : ((a : Int) == 6) = false := by rw [beq_eq_false_iff_ne]; omega
              clear h1 h2
              go_wp2
              go_ret2
              exact ⟨none, 0, by rw [HKD.out, HBL.out]; rfl, by rw [HBL.out]; exact IOwns.nil _ _, HE.out⟩
end Go.Proofs.Ytaebbfilgfkckaa
