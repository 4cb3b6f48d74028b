/- slices.Compact of edges. -/
import Derived.Test.YtobkejnlkjieoaaZC21
import Derived.BigRegion
import Derived.Lib.SliceRun
import Derived.Deep.LoopGhost
import Derived.Test.YtobkejnlkjieoaaZC20
import Derived.Deep.RegionHeld3
import Derived.Test.YtobkejnlkjieoaaN5
namespace Go.Proofs.Ytobkejnlkjieoaa
open Go.RowKit Go.Sort
open Go
/-- Runs of equal edges made one, of the first edges. -/
def ddN (L : List Pt) : Nat → List Pt
  | 0 => []
  | i + 1 => if i = 0 ∨ at' L i ≠ at' L (i - 1) then ddN L i ++ [at' L i] else ddN L i
def ddP (L : List Pt) : List Pt := ddN L L.length
theorem ddN_len (L : List Pt) : ∀ i, (ddN L i).length ≤ i
  | 0 => Nat.le_refl _
  | i + 1 => by
    have := ddN_len L i
    unfold ddN
    split
    · rw [List.length_append, List.length_singleton]; omega
    · omega
/-- As long as no two neighbours are equal. -/
theorem ddN_all {L : List Pt} : ∀ {k : Nat}, k ≤ L.length → (∀ i, 0 < i → i < k → at' L i ≠ at' L (i - 1)) → ddN L k = L.take k := by
  intro k
  induction k with
  | zero => intro _ _; rfl
  | succ k ih =>
    intro h1 h2
    have hk := ih (by omega) fun i a b => h2 i a (by omega)
    have hor : k = 0 ∨ at' L k ≠ at' L (k - 1) := (Nat.eq_zero_or_pos k).elim Or.inl (fun h => Or.inr (h2 k h (by omega)))
    rw [ddN, if_pos hor, hk, List.take_add_one, List.getElem?_eq_getElem (by omega)]
    unfold at'
    rw [List.getD_eq_getElem?_getD, List.getElem?_eq_getElem (by omega)]
    rfl
theorem run_clear2 (w : World) (b o n c : Nat) (hn : 0 < n) (hc : ∀ j, j < n * 2 → (w.cell? ⟨b, o + j, none⟩).isSome = true) (hf : ∀ j, j < n * 2 → w.frozen? ⟨b, o + j, none⟩ = false) (ty : TypeId) :
    (Builtin.clear_ #[22] ty #[.slice (some ⟨b, o, none⟩) n c]).run Try.prog w = .ok (.tuple #[]) (w.setCells b o (List.replicate (n * 2) (.int .i64 0))) := by
  have hzc : (Builtin.zeroCells (Value.agg #[.int .i64 0, .int .i64 0]).cells n).toList = List.replicate (n * 2) (.int .i64 0) := by
    rw [show (Value.agg #[.int .i64 0, .int .i64 0]).cells = #[.int .i64 0, .int .i64 0] from rfl]
    apply List.ext_getElem
    · simp [Builtin.zeroCells]
    · intro i h1 h2
      simp only [Builtin.zeroCells, List.getElem_replicate, Array.getElem_toList]
      simp
      rcases Nat.mod_two_eq_zero_or_one i with h | h <;> simp [h]
  have hst := run_storeCells_cells (P := Try.prog) b o (List.replicate (n * 2) (.int .i64 0)) 0 w (by simpa using hc) (by simpa using hf) (by intro v hv'; rw [List.eq_of_mem_replicate hv']; rfl)
  simp only [Nat.add_zero] at hst
  obtain ⟨m, rfl⟩ : ∃ m, n = m + 1 := ⟨n - 1, by omega⟩
  simp [Builtin.clear_, run_underlying Try.underlying22, Try.zeroValue56, hzc, hst]
theorem take_set_more {C : List Pt} {k : Nat} (q : Pt) (h : k < C.length) : (C.set k q).take (k + 1) = C.take k ++ [q] := by
  rw [List.take_add_one, List.getElem?_set_self h, List.take_set_of_le (Nat.le_refl _)]
  rfl
theorem own_beyond {B e sz n g c : Nat} {xs : List Value} : ∀ (vs : List Value) (w : World) (j : Nat), w.ownsRow B e sz (.slice (some ⟨g, 0, none⟩) n c) n xs → xs.length ≤ j → (w.setCells g j vs).ownsRow B e sz (.slice (some ⟨g, 0, none⟩) n c) n xs
  | [], _, _, h, _ => h
  | v :: r, w, j, h, hj => by
    have q := (World.ownsRow.stored h j v).1
    rw [List.set_eq_of_length_le hj] at q
    exact own_beyond r _ (j + 1) q (by omega)
theorem frame_setCells (g : Nat) : ∀ (vs : List Value) (w : World) (j : Nat), Frame w (w.setCells g j vs) (fun b => b = g)
  | [], _, _ => Frame.of_below (Below.refl _ _) _
  | v :: r, w, j => (Frame.set w ⟨g, j, none⟩ v (p := fun b => b = g) rfl).trans (frame_setCells g r _ (j + 1))
theorem owns_take {w : World} {B g c : Nat} {C : List Pt} (h : Owns w B (.slice (some ⟨g, 0, none⟩) C.length c) C) {k : Nat} (hk : k ≤ C.length) : Owns w B (.slice (some ⟨g, 0, none⟩) k c) (C.take k) := by
  obtain ⟨h1, ⟨h2, h3⟩ | ⟨g', cap, cur, h2, h3, h4, h5, h6, h7, h8⟩⟩ := h
  · cases h2
  · simp only [Value.slice.injEq, Option.some.injEq, Addr.mk.injEq, and_true, true_and] at h2
    obtain ⟨rfl, rfl⟩ := h2
    have hl : (C.take k).length = k := by rw [List.length_take]; omega
    refine ⟨cells_length _, Or.inr ⟨_, _, cur, by rw [hl], h3, h4, by rw [hl]; omega, h6, h7, ?_⟩⟩
    rw [hl]
    have e1 : cur.toList.take (k * 2) = (cells C).take (k * 2) := by
      rw [← h8, List.take_take]
      congr 1
      omega
    rw [e1]
    have e2 : cells C = cells (C.take k) ++ cells (C.drop k) := by rw [← cells_append, List.take_append_drop]
    rw [e2, List.take_left' (by rw [cells_length, hl])]
set_option maxRecDepth 100000 in
set_option maxHeartbeats 8000000 in
theorem compact66 (B : Nat) (v : Value) (L : List Pt) (w : World) (h : Owns w B v L) (hl : L.length ≤ 100000) : Calls Try.prog 66 #[v] w fun e w' => ∃ v', e = .returned v' ∧ Owns w' B v' (ddP L) ∧ Frame w w' (fun b => v.ownBlock = some b) ∧ v'.ownBlock = v.ownBlock := by
  by_cases h2 : L.length < 2
  · have hdd : ddP L = L := by
      unfold ddP
      rw [ddN_all (Nat.le_refl _) (fun i a b => by omega), List.take_length]
    obtain ⟨p, c, rfl, _⟩ := h.form
    have HO := hide h
    have h2' : (L.length : Int) < 2 := by omega
    have HDD := hide hdd
    clear h hdd
    go_enter Try.func66, Try.ntmps66
    go_wp2
    go_ret
    exact ⟨_, rfl, by rw [HDD.out]; exact HO.out, Frame.of_below (Below.refl _ _) _, rfl⟩
  · obtain ⟨g, c, rfl, hcap, hBg, hgl⟩ := owns_block h (by omega)
    have HO := hide h
    obtain ⟨n, hn⟩ : ∃ n, L.length = n := ⟨_, rfl⟩
    have HN := hide hn
    rw [hn] at hl h2 hcap
    have h2' : ¬ (n : Int) < 2 := by omega
    rw [hn]
    have HOn : Hid (Owns w B (.slice (some ⟨g, 0, none⟩) n c) L) := by show Owns _ _ _ _; rw [← hn]; exact h
    clear h hn
    have heq : ∀ (p q : Pt) (w : World), (Op.equalIn 10000 56 (pv p.x p.y) (pv q.x q.y)).run Try.prog w = .ok (decide (p = q)) w := fun p q w => eq60 p q w
    have HEQ := hide heq
    clear heq
    go_enter Try.func66, Try.ntmps66
    go_wp2_with fail
    go_loopw [3] (fun t3 wr => ∃ k : Nat, 1 ≤ k ∧ k ≤ n ∧ t3 = .int .i64 k ∧ Hid (Owns wr B (.slice (some ⟨g, 0, none⟩) n c) L) ∧ Hid (Frame w wr (fun b => b = g)) ∧ Hid (∀ i, 0 < i → i < k → at' L i ≠ at' L (i - 1))) (fun t _ => n - (intOf t).toNat)
    case atStart => exact ⟨1, by omega, by omega, rfl, HOn.out, Frame.of_below (Below.refl _ _) _, fun i a b => by omega⟩
    case round =>
      obtain ⟨k, hk1, hkn, rfl, HOw, HF, HD⟩ := hrel
      by_cases hlt : k < n
      · have hOw := HOw.out
        have hLi := Owns.lies (by rw [HN.out]; exact hOw)
        obtain ⟨a0, a1⟩ := hLi k (by rw [HN.out]; exact hlt)
        obtain ⟨k0, rfl⟩ : ∃ k0, k = k0 + 1 := ⟨k - 1, by omega⟩
        obtain ⟨b0, b1⟩ := hLi k0 (by rw [HN.out]; omega)
        obtain ⟨pa, hpa⟩ : ∃ p, at' L (k0 + 1) = p := ⟨_, rfl⟩
        obtain ⟨pb, hpb⟩ : ∃ p, at' L k0 = p := ⟨_, rfl⟩
        rw [hpa, Nat.zero_add] at a0 a1
        rw [hpb, Nat.zero_add] at b0 b1
        have heq := fun V => HEQ.out pa pb V
        have i1 : (k0 : Int) + 1 < n := by omega
        have i2 : (0 : Int) ≤ (k0 : Int) + 1 := by omega
        have i3 : (k0 : Int) < n := by omega
        have i4 : (0 : Int) ≤ k0 := by omega
        have HPA := hide hpa
        have HPB := hide hpb
        clear hOw hLi hpa hpb
        by_cases hdup : pa = pb
        · have hck : ¬ c = k0 + 1 := by omega
          have hcn : n ≤ c := hcap
          have HDA : Hid (ddN L (k0 + 1 + 1) = L.take (k0 + 1)) := by
            show _ = _
            rw [ddN, if_neg (by rintro (z | z); exact absurd z (by omega); exact z (by rw [show k0 + 1 - 1 = k0 by omega, HPA.out, HPB.out, hdup])), ddN_all (by have := HN.out; omega) (fun i a b => HD.out i a b)]
          have HOd := hide (Owns.later HOw.out (below_drew wr))
          have HFd : Hid (Frame w wr.drew (fun b => b = g)) := HF.out.trans (Frame.of_below (below_drew _) _)
          subst hdup
          have heq2 := fun V => HEQ.out pa pa V
          clear heq HOw HF
          go_upto_region 6 with fail
          go_region
          obtain ⟨w1, hw1⟩ : ∃ w1, w1 = wr.drew := ⟨_, rfl⟩
          have hw1' := hw1.symm
          rw [hw1'] at HOd HFd ⊢
          clear hw1 hw1' a0 a1 b0 b1 heq2
          go_wp2_with fail
          go_loopw [3, 5] (fun t3 t5 wr => ∃ (kk k2 : Nat) (C : List Pt), 1 ≤ k2 ∧ k0 + 1 + k2 ≤ n ∧ t3 = .int .i64 kk ∧ t5 = .int .i64 k2 ∧ kk + 1 ≤ k0 + 1 + k2 ∧ Hid (C.length = n) ∧ Hid (Owns wr B (.slice (some ⟨g, 0, none⟩) n c) C) ∧ Hid (C.take kk = ddN L (k0 + 1 + k2)) ∧ Hid (∀ i, k0 + k2 ≤ i → i < n → at' C i = at' L i) ∧ Hid (Frame w wr (fun b => b = g))) (fun _ t _ => n - (intOf t).toNat)
          case atStart => exact ⟨k0 + 1, 1, L, by omega, by omega, by go_num, rfl, by omega, HN.out, HOd.out, HDA.out.symm, fun i _ _ => rfl, HFd.out⟩
          case round =>
            clear HOd HFd HDA
            obtain ⟨kk, k2, C, hk21, hk2n, rfl, rfl, hkk, HCN, HOw, HTK, HEQL, HF⟩ := hrel
            obtain ⟨k3, rfl⟩ : ∃ k3, k2 = k3 + 1 := ⟨k2 - 1, by omega⟩
            have hsub : ((n - (k0 + 1) : Nat) : Int) = (n : Int) - ((k0 : Int) + 1) := by omega
            by_cases hlt2 : k0 + 1 + (k3 + 1) < n
            · have hLi := Owns.lies (by rw [HCN.out]; exact HOw.out)
              obtain ⟨a0, a1⟩ := hLi (k0 + 1 + (k3 + 1)) (by rw [HCN.out]; exact hlt2)
              obtain ⟨b0, b1⟩ := hLi (k0 + 1 + k3) (by rw [HCN.out]; omega)
              rw [HEQL.out _ (by omega) hlt2] at a0 a1
              rw [HEQL.out _ (by omega) (by omega)] at b0 b1
              obtain ⟨qa, hqa⟩ : ∃ p, at' L (k0 + 1 + (k3 + 1)) = p := ⟨_, rfl⟩
              obtain ⟨qb, hqb⟩ : ∃ p, at' L (k0 + 1 + k3) = p := ⟨_, rfl⟩
              rw [hqa, Nat.zero_add, show (k0 + 1 + (k3 + 1)) * 2 = (k0 + 1) * 2 + (k3 + 1) * 2 by omega] at a0 a1
              rw [hqb, Nat.zero_add, show (k0 + 1 + k3) * 2 = (k0 + 1) * 2 + k3 * 2 by omega] at b0 b1
              have heq2 := fun V => HEQ.out qa qb V
              have j1 : (k3 : Int) + 1 < n - ((k0 : Int) + 1) := by omega
              have j2 : (0 : Int) ≤ (k3 : Int) + 1 := by omega
              have j3 : (k3 : Int) < n - ((k0 : Int) + 1) := by omega
              have j4 : (0 : Int) ≤ k3 := by omega
              have j5 : (0 : Int) ≤ kk := by omega
              have j6 : (kk : Int) < n := by omega
              have j7 : (k3 : Int) + 1 < ((n - (k0 + 1) : Nat) : Int) := by omega
              have HQA := hide hqa
              have HQB := hide hqb
              have HST : Hid (ddN L (k0 + 1 + (k3 + 1) + 1) = if qa ≠ qb then ddN L (k0 + 1 + (k3 + 1)) ++ [qa] else ddN L (k0 + 1 + (k3 + 1))) := by
                show _ = _
                rw [ddN, hqa, show k0 + 1 + (k3 + 1) - 1 = k0 + 1 + k3 by omega, hqb]
                by_cases e : qa = qb
                · rw [if_neg (by rintro (z | z); exact absurd z (by omega); exact z e), if_neg (fun z => z e)]
                · rw [if_pos (Or.inr e), if_pos e]
              clear hLi hqa hqb hsub
              have HOd := hide (Owns.later HOw.out (below_drew wr))
              have HFd : Hid (Frame w wr.drew (fun b => b = g)) := HF.out.trans (Frame.of_below (below_drew _) _)
              have hck2 : kk < n := by omega
              have HCL : Hid (at' C (k0 + 1 + (k3 + 1)) = qa) := by show _ = _; rw [HEQL.out _ (by omega) hlt2]; exact HQA.out
              clear HOw HF
              by_cases hq : qa = qb
              · subst hq
                have heq3 := fun V => HEQ.out qa qa V
                clear heq2
                go_upto_region 11 with fail
                go_region
                obtain ⟨w1, hw1⟩ : ∃ w1, w1 = wr.drew := ⟨_, rfl⟩
                have hw1' := hw1.symm
                rw [hw1'] at HOd HFd ⊢
                clear hw1 hw1' a0 a1 b0 b1 heq3
                go_wp2
                go_roundw
                case rel => exact ⟨kk, k3 + 1 + 1, C, by omega, by omega, rfl, by go_num, by omega, HCN.out, HOd.out, by rw [show k0 + 1 + (k3 + 1 + 1) = k0 + 1 + (k3 + 1) + 1 by omega, HST.out, if_neg (fun z => z rfl)]; exact HTK.out, fun i a b => HEQL.out i (by omega) b, HFd.out⟩
                case measure => simp [intOf]; omega
              · go_upto_region 11 with fail
                go_region
                obtain ⟨w1, hw1⟩ : ∃ w1, w1 = wr.drew := ⟨_, rfl⟩
                have hw1' := hw1.symm
                rw [hw1'] at HOd HFd ⊢
                clear hw1 hw1' a0 a1 b0 b1 heq2
                have hLi := Owns.lies (by rw [HCN.out]; exact HOd.out)
                obtain ⟨a0, a1⟩ := hLi (k0 + 1 + (k3 + 1)) (by rw [HCN.out]; exact hlt2)
                rw [HCL.out, Nat.zero_add, show (k0 + 1 + (k3 + 1)) * 2 = (k0 + 1) * 2 + (k3 + 1) * 2 by omega] at a0 a1
                obtain ⟨b0, b1⟩ := hLi kk (by rw [HCN.out]; exact hck2)
                rw [Nat.zero_add] at b0 b1
                clear hLi
                have HOC : Hid (Owns w1 B (.slice (some ⟨g, 0, none⟩) C.length c) C) := by show Owns _ _ _ _; rw [HCN.out]; exact HOd.out
                have f0 := World.ownsRow.frozenAt HOC.out (kk * 2)
                have f1 := World.ownsRow.frozenAt HOC.out (kk * 2 + 1)
                obtain ⟨w2, hw2⟩ : ∃ w2, w2 = (w1.setCell ⟨g, kk * 2, none⟩ (.int .i64 qa.x)).setCell ⟨g, kk * 2 + 1, none⟩ (.int .i64 qa.y) := ⟨_, rfl⟩
                have hw2' := hw2.symm
                have HOS : Hid (Owns w2 B (.slice (some ⟨g, 0, none⟩) n c) (C.set kk qa)) := by
                  have := HOC.out.set kk qa
                  rw [hw2', List.length_set, HCN.out] at this
                  exact this
                have HFS : Hid (Frame w w2 (fun b => b = g)) := by
                  show Frame _ _ _
                  rw [hw2]
                  exact (HFd.out.trans (Frame.set _ _ _ rfl)).trans (Frame.set _ _ _ rfl)
                clear hw2
                go_upto_region 13 with fail
                clear hw2' a0 a1 b0 b1 f0 f1
                go_wp2
                go_roundw
                case rel => exact ⟨kk + 1, k3 + 1 + 1, C.set kk qa, by omega, by omega, by go_num, by go_num, by omega, by show _ = _; rw [List.length_set]; exact HCN.out, HOS.out, by rw [show k0 + 1 + (k3 + 1 + 1) = k0 + 1 + (k3 + 1) + 1 by omega, HST.out, if_pos hq, ← HTK.out]; exact take_set_more qa (by rw [HCN.out]; exact hck2), fun i a b => by rw [at_set _ _ _ _ (by rw [HCN.out]; exact b), if_neg (by omega)]; exact HEQL.out i (by omega) b, HFS.out⟩
                case measure => simp [intOf]; omega
            · have hkn2 : k0 + 1 + (k3 + 1) = n := by omega
              have hck2 : kk ≤ n := by omega
              have hck3 : kk < n := by omega
              have hck4 : ¬ c = kk := by omega
              have HOC : Hid (Owns wr B (.slice (some ⟨g, 0, none⟩) C.length c) C) := by show Owns _ _ _ _; rw [HCN.out]; exact HOw.out
              have hcell : ∀ j, j < (n - kk) * 2 → (wr.cell? ⟨g, kk * 2 + j, none⟩).isSome = true := fun j hj => by
                obtain ⟨a0, a1⟩ := Owns.lies HOC.out ((kk * 2 + j) / 2) (by rw [HCN.out]; omega)
                rw [Nat.zero_add] at a0 a1
                rcases Nat.mod_two_eq_zero_or_one (kk * 2 + j) with z | z
                · rw [show kk * 2 + j = (kk * 2 + j) / 2 * 2 by omega, a0]; rfl
                · rw [show kk * 2 + j = (kk * 2 + j) / 2 * 2 + 1 by omega, a1]; rfl
              have hcl : ∀ ty, (Builtin.clear_ #[22] ty #[.slice (some ⟨g, kk * 2, none⟩) (n - kk) (c - kk)]).run Try.prog wr = .ok (.tuple #[]) (wr.setCells g (kk * 2) (List.replicate ((n - kk) * 2) (.int .i64 0))) := fun ty => run_clear2 wr g (kk * 2) (n - kk) (c - kk) (by omega) hcell (fun j _ => World.ownsRow.frozenAt HOC.out _) ty
              have HTL : Hid ((C.take kk).length = kk) := by show _ = _; rw [List.length_take, HCN.out]; omega
              have HOT := hide (owns_take HOC.out (k := kk) (by rw [HCN.out]; exact hck2))
              have HOR : Hid (Owns (wr.setCells g (kk * 2) (List.replicate ((n - kk) * 2) (.int .i64 0))) B (.slice (some ⟨g, 0, none⟩) kk c) (C.take kk)) := by
                show Owns _ _ _ _
                have e := HOT.out
                unfold Owns at e ⊢
                rw [HTL.out] at e ⊢
                exact own_beyond _ wr (kk * 2) e (by rw [cells_length, HTL.out]; exact Nat.le_refl _)
              have HFR : Hid (Frame w (wr.setCells g (kk * 2) (List.replicate ((n - kk) * 2) (.int .i64 0))) (fun b => b = g)) := HF.out.trans (frame_setCells g _ _ _)
              have HDD : Hid (ddP L = C.take kk) := by show _ = _; unfold ddP; rw [HTK.out, hkn2, HN.out]
              clear hcell HOw HF HOC HOT
              go_wp2
              go_ret
              exact ⟨_, rfl, by rw [HDD.out]; exact HOR.out, HFR.out.mono fun i _ h => by rw [h]; rfl, rfl⟩
        · have HOd := hide (Owns.later HOw.out (below_drew wr))
          have HFd : Hid (Frame w wr.drew (fun b => b = g)) := HF.out.trans (Frame.of_below (below_drew _) _)
          have HD2 : Hid (∀ i, 0 < i → i < k0 + 1 + 1 → at' L i ≠ at' L (i - 1)) := fun i a b => by
            by_cases e : i = k0 + 1
            · subst e
              rw [HPA.out, show k0 + 1 - 1 = k0 by omega, HPB.out]
              exact hdup
            · exact HD.out i a (by omega)
          clear HOw HF HD
          go_upto_region 6 with fail
          go_region
          go_wp2
          go_roundw
          case rel => exact ⟨k0 + 1 + 1, by omega, by omega, by go_num, HOd.out, HFd.out, HD2.out⟩
          case measure => simp [intOf]; omega
      · have hkn' : k = n := by omega
        have hlt' : ¬ (k : Int) < n := by omega
        have HDD : Hid (ddP L = L) := by
          show _ = _
          unfold ddP
          rw [ddN_all (Nat.le_refl _) (fun i a b => HD.out i a (by have := HN.out; omega)), List.take_length]
        clear hkn' hlt
        go_wp2
        go_ret
        exact ⟨_, rfl, by rw [HDD.out]; exact HOw.out, HF.out.mono fun i _ h => by rw [h]; rfl, rfl⟩
end Go.Proofs.Ytobkejnlkjieoaa

/- The tree's edges, by block and cut node. -/
namespace Go.Proofs.Ytobkejnlkjieoaa
open Go.RowKit Go.Sort
open Go
/-- The tree's edges as they come up, of the first half-edges. -/
def joH (es : List Pt) (of : Nat → Int) (cu : List Int) (ct : Int) : Nat → List Pt
  | 0 => []
  | h + 1 => if fromL es h ∈ cu then joH es of cu ct h ++ [⟨of (h / 2), ct + lsN cu (fromL es h)⟩] else joH es of cu ct h
def joB (es : List Pt) (of : Nat → Int) (cu : List Int) (ct : Int) : List Pt := ddP (sortP (joH es of cu ct (2 * es.length)))
theorem joH_len (es : List Pt) (of : Nat → Int) (cu : List Int) (ct : Int) : ∀ h, (joH es of cu ct h).length ≤ h
  | 0 => Nat.le_refl _
  | h + 1 => by
    have := joH_len es of cu ct h
    unfold joH
    split
    · rw [List.length_append, List.length_singleton]; omega
    · omega
theorem ls_le (l : List Int) (x : Int) : lsN l x ≤ l.length := List.countP_le_length
theorem two_boxes34 (w : World) (n : Int) (p : Option Addr) (l c : Nat) (of cu : Value) (x : Int) : ∃ W, W = (w.alloc (nbx n p l c)).alloc (.cells #[of, cu, .int .i64 x] 34) ∧ Below w.heap.size w W ∧ NOwn W w.heap.size n p l c ∧ BCell W (w.heap.size + 1) of cu x :=
  ⟨_, rfl, by go_grown, ⟨by unfold nbx; go_cell, by unfold nbx; go_cell, by unfold nbx; go_cell, by unfold nbx; go_cell⟩, by go_cell, by go_cell, by go_cell⟩
theorem below_frame {W w w' : World} {B : Nat} {p : Nat → Prop} (h : Below B W w) (f : Frame w w' p) (hp : ∀ b, p b → B ≤ b) (hB : B ≤ w.heap.size) : Below B W w' :=
  ⟨f.os.trans h.os, f.tape.trans h.tape, f.output.trans h.output, Nat.le_trans h.size f.size, fun i hi => (f.block i (by omega) (fun k => absurd (hp i k) (by omega))).trans (h.block i hi)⟩
theorem sortP_len (L : List Pt) : (sortP L).length = L.length := List.length_mergeSort _
set_option maxRecDepth 100000 in
set_option maxHeartbeats 16000000 in
theorem joints40 (n : Nat) (p q r : Option Addr) (es : List Pt) (of : Nat → Int) (cu : List Int) (ct cp cq cr : Nat) (w : World) (h : Has w p es) (hq : IHas w q (fnL es.length of)) (hr : IHas w r cu) (hup : Up cu) (hm : netB n es = true) (hcu : cu.length ≤ 1000000) (hct : ct ≤ 1000000) : Calls Try.prog 40 #[nv n p es.length cp, blV (.slice q es.length cq) (.slice r cu.length cr) ct] w fun e w' => ∃ v, e = .returned v ∧ Owns w' w.heap.size v (joB es of cu ct) ∧ Below w.heap.size w w' := by
  obtain ⟨W, hW, hb, a0, b0⟩ := two_boxes34 w n p es.length cp (.slice q es.length cq) (.slice r cu.length cr) ct
  obtain ⟨n0, n1, hes, hE⟩ := netB_is hm
  have HH := hide (h.later hb)
  have HQ := hide (hq.later hb)
  have HR := hide (hr.later hb)
  have HUP := hide hup
  have HB := hide hb
  have HA := hide a0
  have HC := hide b0
  have hws : w.heap.size + 1 < W.heap.size := block_lt_of_cell b0.1
  obtain ⟨kb, hkb⟩ : ∃ kb, w.heap.size = kb := ⟨_, rfl⟩
  have HS : Hid (∀ V, Below W.heap.size W V → V.cell? ⟨kb, 0, none⟩ = some (.int .i64 n) ∧ V.cell? ⟨kb, 1, none⟩ = some (.slice p es.length cp) ∧ V.cell? ⟨kb + 1, 0, none⟩ = some (.slice q es.length cq) ∧ V.cell? ⟨kb + 1, 1, none⟩ = some (.slice r cu.length cr) ∧ V.cell? ⟨kb + 1, 2, none⟩ = some (.int .i64 ct)) := fun V hV => by
    obtain ⟨r0, r1, _, _⟩ := HA.out.later hV
    obtain ⟨s0, s1, s2⟩ := HC.out
    rw [hkb] at r0 r1 s0 s1 s2
    exact ⟨r0, r1, later hV s0, later hV s1, later hV s2⟩
  have HKB := hide hkb
  have HSZ : Hid (w.heap.size ≤ W.heap.size) := by show _ ≤ _; omega
  clear h hq hr hup hb hE hm a0 b0 hws
  obtain ⟨q0, q1, _⟩ := HS.out W (Below.refl _ _)
  go_enter Try.func40, Try.ntmps40
  go_upto_region 2 with fail
  unfold blV
  rw [← hW]
  try rw [hkb]
  clear hW hkb
  go_wp2_with fail
  clear q0 q1
  go_loopw [5, 15] (fun t5 t wr => ∃ i : Nat, i ≤ es.length ∧ t = .int .i64 i ∧ Hid (Below W.heap.size W wr) ∧ Hid (Owns wr W.heap.size t5 (joH es of cu ct (2 * i)))) (fun _ t _ => es.length - (intOf t).toNat)
  case atStart => exact ⟨0, by omega, rfl, Below.refl _ _, Owns.nil _ _⟩
  case round =>
    obtain ⟨i, hi, rfl, HBr, HO⟩ := hrel
    by_cases hlt : i < es.length
    · have hq : ∃ b off, p = some ⟨b, off, none⟩ ∧ Lies W b off es := by
        rcases HH.out with h0 | h0
        · subst h0; simp at hlt
        · exact h0
      obtain ⟨b', off', rfl, hLW⟩ := hq
      obtain ⟨c0, c1⟩ := hLW.later HBr.out i hlt
      have i1 : (i : Int) < es.length := by omega
      have i2 : (0 : Int) ≤ i := by omega
      go_upto_region 5 with fail
      obtain ⟨V, hV⟩ : ∃ V, V = wr.alloc (.cells #[.int .i64 (at' es i).x, .int .i64 (at' es i).y] 56) := ⟨_, rfl⟩
      have hbV : Below wr.heap.size wr V := by rw [hV]; go_grown
      have HBV := hide (below_step HBr.out hbV)
      have HOV := hide (HO.out.later hbV)
      obtain ⟨kv, hkv⟩ : ∃ kv, wr.heap.size = kv := ⟨_, rfl⟩
      have l0 : V.cell? ⟨kv, 0, none⟩ = some (.int .i64 (at' es i).x) := by rw [hV, ← hkv]; go_cell
      have l1 : V.cell? ⟨kv, 1, none⟩ = some (.int .i64 (at' es i).y) := by rw [hV, ← hkv]; go_cell
      rw [← hV]
      try rw [hkv]
      clear hkv hV hbV c0 c1 HO HBr hLW
      obtain ⟨o, ho⟩ : ∃ o, of i = o := ⟨_, rfl⟩
      have HOF := hide ho
      obtain ⟨b, off, rfl, _⟩ := HQ.out.at_ (j := i) (by rw [fnL_length]; exact hlt)
      clear ho
      go_wp2_with fail
      clear l0 l1
      go_loopw [5, 21] (fun t5 t wr => ∃ s : Nat, s ≤ 2 ∧ t = .int .i64 s ∧ Hid (Below W.heap.size W wr) ∧ Hid (Owns wr W.heap.size t5 (joH es of cu ct (2 * i + s)))) (fun _ t _ => 2 - (intOf t).toNat)
      case atStart => exact ⟨0, by omega, rfl, HBV.out, HOV.out⟩
      case round =>
        clear HBV HOV
        obtain ⟨s, hs, rfl, HBi, HOi⟩ := hrel
        have hO := HOi.out
        have ho := HOF.out
        obtain ⟨b2, off2, hb2, o0⟩ := (HQ.out.later HBi.out).at_ (j := i) (by rw [fnL_length]; exact hlt)
        simp only [Option.some.injEq, Addr.mk.injEq, and_true] at hb2
        obtain ⟨rfl, rfl⟩ := hb2
        rw [fnL_at _ hlt, ho] at o0
        clear HOi
        rcases (by omega : s = 0 ∨ s = 1 ∨ s = 2) with rfl | rfl | rfl
        · rw [Nat.add_zero] at hO
          have hfx : fromL es (2 * i) = (at' es i).x := by unfold fromL; rw [if_pos (by omega), show 2 * i / 2 = i by omega]
          obtain ⟨x, hx⟩ : ∃ x, (at' es i).x = x := ⟨_, rfl⟩
          have IX : ∀ V, (Instr.index 56 (pv (at' es i).x (at' es i).y) (.int .i64 0)).run Try.prog V = .ok (.int .i64 (at' es i).x) V := fun V => by kernel_rfl
          rw [hx] at IX hfx ⊢
          have hst : joH es of cu ct (2 * i + 1) = if x ∈ cu then joH es of cu ct (2 * i) ++ [⟨o, ct + lsN cu x⟩] else joH es of cu ct (2 * i) := by rw [joH, hfx, show (2 * i) / 2 = i by omega, ho]
          have HST := hide hst
          obtain ⟨ab, hab⟩ : ∃ z, (at' es i).y = z := ⟨_, rfl⟩
          rw [hab] at IX ⊢
          have C := hide (search61 r cu cr x _ hcu (HR.out.later HBi.out) HUP.out)
          have HO := hide hO
          have hjl := joH_len es of cu ct (2 * i)
          have hll := ls_le cu x
          obtain ⟨y, hy⟩ : ∃ y, lsN cu x = y := ⟨_, rfl⟩
          rw [hy] at C hll HST
          obtain ⟨q0, q1, q2, q3, q4⟩ := HS.out _ HBi.out
          clear hfx hx hab hst hO ho hy
          go_upto_region 8 with fail
          go_wp2_with fail
          refine C.out.mono ?_
          rintro e w' ⟨rfl, rfl⟩
          clear C IX q0 q1 q3
          by_cases hin : x ∈ cu
          · rw [decide_eq_true hin]
            have hinT := hin
            obtain ⟨v1, D, e1, o1, _, hbD⟩ := app1 (w := w'.drew) (HO.out.later (below_drew w')) o ((ct : Int) + (y : Int)) (by have := HBi.out.size; exact this) (by omega)
            have HBD := hide (Below.trans HBi.out ((below_drew w').mono HBi.out.size |>.trans hbD))
            have HO1 : Hid (Owns D W.heap.size v1 (joH es of cu ct (2 * i + 1))) := by show Owns _ _ _ _; rw [HST.out, if_pos hin]; exact o1
            have wv : IntKind.i64.wrap ((ct : Int) + (y : Int)) = (ct : Int) + (y : Int) := by rw [IntKind.wrap_i64]; omega
            have SK : Hid (∀ V, Below w'.heap.size w' V → V.cell? ⟨kb + 1, 0, none⟩ = some (.slice (some ⟨b, off, none⟩) es.length cq) ∧ V.cell? ⟨kb + 1, 2, none⟩ = some (.int .i64 ct) ∧ V.cell? ⟨b, off + i, none⟩ = some (.int .i64 o)) := fun V hB => ⟨later hB q2, later hB q4, later hB o0⟩
            have SKD : Hid (D.cell? ⟨kb + 1, 0, none⟩ = some (.slice (some ⟨b, off, none⟩) es.length cq) ∧ D.cell? ⟨kb + 1, 2, none⟩ = some (.int .i64 ct) ∧ D.cell? ⟨b, off + i, none⟩ = some (.int .i64 o)) := by
              obtain ⟨_, _, s0, _, s2⟩ := HS.out D HBD.out
              obtain ⟨b3, off3, hb3, s3⟩ := (HQ.out.later HBD.out).at_ (j := i) (by rw [fnL_length]; exact hlt)
              simp only [Option.some.injEq, Addr.mk.injEq, and_true] at hb3
              obtain ⟨rfl, rfl⟩ := hb3
              rw [fnL_at _ hlt, HOF.out] at s3
              exact ⟨s0, s2, s3⟩
            clear o1 hbD hinT
            go_upto_region 10 with fail
            go_region_held3 (fun V => V.cell? ⟨kb + 1, 0, none⟩ = some (.slice (some ⟨b, off, none⟩) es.length cq) ∧ V.cell? ⟨kb + 1, 2, none⟩ = some (.int .i64 ct) ∧ V.cell? ⟨b, off + i, none⟩ = some (.int .i64 o))
              (first | exact SKD.out | exact SK.out _ (below_drew _) | exact SK.out _ (by go_grown))
              (first | (refine step_run_append (by rfl) (.tmp 32) (.tmp 43) 22 (by rfl) 22 (by rfl) u5 (.slice (some ⟨w'.heap.size, 0, none⟩) 1 1) v1 D (by rfl) (by rfl) ?_ ?_; exact e1))
            rename_i hHeld
            clear hHeld
            go_wp2
            go_roundw
            case rel => exact ⟨1, by omega, by go_num, HBD.out, HO1.out⟩
            case measure => simp [intOf]
          · rw [decide_eq_false hin]
            go_wp2
            go_roundw
            case rel => exact ⟨1, by omega, by go_num, HBi.out, by show Owns _ _ _ _; rw [show 2 * i + 1 = 2 * i + 1 by omega, HST.out, if_neg hin]; exact HO.out⟩
            case measure => simp [intOf]
        · skip
          have hfx : fromL es (2 * i + 1) = (at' es i).y := by unfold fromL; rw [if_neg (by omega), show (2 * i + 1) / 2 = i by omega]
          obtain ⟨x, hx⟩ : ∃ x, (at' es i).y = x := ⟨_, rfl⟩
          have IX : ∀ V, (Instr.index 56 (pv (at' es i).x (at' es i).y) (.int .i64 1)).run Try.prog V = .ok (.int .i64 (at' es i).y) V := fun V => by kernel_rfl
          rw [hx] at IX hfx ⊢
          have hst : joH es of cu ct (2 * i + 1 + 1) = if x ∈ cu then joH es of cu ct (2 * i + 1) ++ [⟨o, ct + lsN cu x⟩] else joH es of cu ct (2 * i + 1) := by rw [joH, hfx, show (2 * i + 1) / 2 = i by omega, ho]
          have HST := hide hst
          obtain ⟨ab, hab⟩ : ∃ z, (at' es i).x = z := ⟨_, rfl⟩
          rw [hab] at IX ⊢
          have C := hide (search61 r cu cr x _ hcu (HR.out.later HBi.out) HUP.out)
          have HO := hide hO
          have hjl := joH_len es of cu ct (2 * i + 1)
          have hll := ls_le cu x
          obtain ⟨y, hy⟩ : ∃ y, lsN cu x = y := ⟨_, rfl⟩
          rw [hy] at C hll HST
          obtain ⟨q0, q1, q2, q3, q4⟩ := HS.out _ HBi.out
          clear hfx hx hab hst hO ho hy
          go_upto_region 8 with fail
          go_wp2_with fail
          refine C.out.mono ?_
          rintro e w' ⟨rfl, rfl⟩
          clear C IX q0 q1 q3
          by_cases hin : x ∈ cu
          · rw [decide_eq_true hin]
            have hinT := hin
            obtain ⟨v1, D, e1, o1, _, hbD⟩ := app1 (w := w'.drew) (HO.out.later (below_drew w')) o ((ct : Int) + (y : Int)) (by have := HBi.out.size; exact this) (by omega)
            have HBD := hide (Below.trans HBi.out ((below_drew w').mono HBi.out.size |>.trans hbD))
            have HO1 : Hid (Owns D W.heap.size v1 (joH es of cu ct (2 * i + 1 + 1))) := by show Owns _ _ _ _; rw [HST.out, if_pos hin]; exact o1
            have wv : IntKind.i64.wrap ((ct : Int) + (y : Int)) = (ct : Int) + (y : Int) := by rw [IntKind.wrap_i64]; omega
            have SK : Hid (∀ V, Below w'.heap.size w' V → V.cell? ⟨kb + 1, 0, none⟩ = some (.slice (some ⟨b, off, none⟩) es.length cq) ∧ V.cell? ⟨kb + 1, 2, none⟩ = some (.int .i64 ct) ∧ V.cell? ⟨b, off + i, none⟩ = some (.int .i64 o)) := fun V hB => ⟨later hB q2, later hB q4, later hB o0⟩
            have SKD : Hid (D.cell? ⟨kb + 1, 0, none⟩ = some (.slice (some ⟨b, off, none⟩) es.length cq) ∧ D.cell? ⟨kb + 1, 2, none⟩ = some (.int .i64 ct) ∧ D.cell? ⟨b, off + i, none⟩ = some (.int .i64 o)) := by
              obtain ⟨_, _, s0, _, s2⟩ := HS.out D HBD.out
              obtain ⟨b3, off3, hb3, s3⟩ := (HQ.out.later HBD.out).at_ (j := i) (by rw [fnL_length]; exact hlt)
              simp only [Option.some.injEq, Addr.mk.injEq, and_true] at hb3
              obtain ⟨rfl, rfl⟩ := hb3
              rw [fnL_at _ hlt, HOF.out] at s3
              exact ⟨s0, s2, s3⟩
            clear o1 hbD hinT
            go_upto_region 10 with fail
            go_region_held3 (fun V => V.cell? ⟨kb + 1, 0, none⟩ = some (.slice (some ⟨b, off, none⟩) es.length cq) ∧ V.cell? ⟨kb + 1, 2, none⟩ = some (.int .i64 ct) ∧ V.cell? ⟨b, off + i, none⟩ = some (.int .i64 o))
              (first | exact SKD.out | exact SK.out _ (below_drew _) | exact SK.out _ (by go_grown))
              (first | (refine step_run_append (by rfl) (.tmp 32) (.tmp 43) 22 (by rfl) 22 (by rfl) u5 (.slice (some ⟨w'.heap.size, 0, none⟩) 1 1) v1 D (by rfl) (by rfl) ?_ ?_; exact e1))
            rename_i hHeld
            clear hHeld
            go_wp2
            go_roundw
            case rel => exact ⟨2, by omega, by go_num, HBD.out, HO1.out⟩
            case measure => simp [intOf]
          · rw [decide_eq_false hin]
            go_wp2
            go_roundw
            case rel => exact ⟨2, by omega, by go_num, HBi.out, by show Owns _ _ _ _; rw [show 2 * i + 2 = 2 * i + 1 + 1 by omega, HST.out, if_neg hin]; exact HO.out⟩
            case measure => simp [intOf]
        · rw [show 2 * i + 2 = 2 * (i + 1) by omega] at hO
          have HO2 := hide hO
          clear hO o0 ho
          go_wp2
          go_roundw
          case rel => exact ⟨i + 1, by omega, by go_num, HBi.out, HO2.out⟩
          case measure => simp [intOf]; omega
    · have hie : i = es.length := by omega
      have hlt' : ¬ (i : Int) < es.length := by omega
      have hjl := joH_len es of cu ct (2 * i)
      have hsl := sortP_len (joH es of cu ct (2 * i))
      have C1 := hide (sort62 W.heap.size _ _ _ HO.out (by omega))
      go_wp2_with fail
      refine C1.out.mono ?_
      rintro e w1 ⟨rfl, ho1, hf1⟩
      have hs1 := HBr.out.size
      have hown : ∀ b, Value.ownBlock _ = some b → W.heap.size ≤ b := fun b hb => (World.ownsRow.lt HO.out b hb).1
      have HB1 := hide (below_frame HBr.out hf1 hown hs1)
      have hown1 : ∀ b, Value.ownBlock _ = some b → W.heap.size ≤ b := fun b hb => (World.ownsRow.lt ho1 b hb).1
      have C2 := hide (compact66 W.heap.size _ _ _ ho1 (by omega))
      have HO1 := hide hown1
      clear C1 hown ho1 hf1 hown1
      go_wp2_with fail
      refine C2.out.mono ?_
      rintro e w2 ⟨v2, rfl, ho2, hf2, _⟩
      have HB2 := hide (below_frame HB1.out hf2 HO1.out HB1.out.size)
      have HO2 := hide ho2
      clear C2 ho2 hf2
      go_wp2
      go_ret
      exact ⟨v2, rfl, by unfold joB; rw [← hie]; exact HO2.out.base HSZ.out, below_step HB.out ((HB2.out).mono (Nat.le_refl _))⟩
end Go.Proofs.Ytobkejnlkjieoaa

/- Numbers below another, each once; the last bit turned (carried). -/
namespace Go.Proofs.Ytobkejnlkjieoaa
open Go.RowKit Go.Sort
open Go

theorem nodup_nat : ∀ (m : Nat) (l : List Nat), l.Nodup → (∀ x ∈ l, x < m) → l.length ≤ m
  | 0, l, _, h => by
    cases l with
    | nil => simp
    | cons x xs => exact absurd (h x (by simp)) (by omega)
  | m + 1, l, hn, h => by
    by_cases hm : m ∈ l
    · have h1 := nodup_nat m (l.erase m) (hn.erase m) (fun x hx => by
        have h2 := h x (List.mem_of_mem_erase hx)
        have h3 : x ≠ m := fun e => by subst e; exact (List.Nodup.not_mem_erase hn) hx
        omega)
      have h4 := List.length_erase_of_mem hm
      omega
    · have := nodup_nat m l hn (fun x hx => by
        have h2 := h x hx
        have h3 : x ≠ m := fun e => hm (e ▸ hx)
        omega)
      omega
/-- The half-edge the other way. -/
def twn (h : Int) : Int := if h % 2 = 0 then h + 1 else h - 1
theorem nat_xor_one (k : Nat) : ((k ^^^ 1 : Nat) : Int) = twn (k : Int) := by
  have h1 : (k ^^^ 1) / 2 = k / 2 := by rw [Nat.xor_div_two]; simp
  have h2 : (k ^^^ 1) % 2 = (k + 1) % 2 := by have := @Nat.xor_mod_two_eq_one k 1; omega
  unfold twn
  split <;> omega
theorem xor_one (k : Nat) (hk : k < 1000000) : bits .xor .i64 (k : Int) 1 = twn (k : Int) := by
  have hx : k ^^^ 1 < 2 ^ 20 := Nat.xor_lt_two_pow (by omega) (by omega)
  have h1 : (BitVec.ofInt 64 (k : Int)).toNat = k := by
    rw [BitVec.ofInt_natCast, BitVec.toNat_ofNat]; exact Nat.mod_eq_of_lt (by omega)
  have h2 : (BitVec.ofInt 64 (1 : Int)).toNat = 1 := by decide
  show IntKind.i64.wrap ((BitVec.ofInt 64 (k : Int) ^^^ BitVec.ofInt 64 1).toNat : Int) = _
  rw [BitVec.toNat_xor, h1, h2, IntKind.wrap_i64, ← nat_xor_one]
  omega
end Go.Proofs.Ytobkejnlkjieoaa
