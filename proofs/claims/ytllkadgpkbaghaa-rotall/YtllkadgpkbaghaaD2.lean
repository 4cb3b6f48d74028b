/- slices.Reverse of numbers. -/
import Derived.Test.YtllkadgpkbaghaaA4
namespace Go.Proofs.Ytllkadgpkbaghaa
open Go.RowKit Go.Sort
open Go


/-- A list of which so many from either end have changed places. -/
def swL (L : List Int) (i : Nat) : List Int := (List.range L.length).map fun t => if t < i ∨ L.length ≤ t + i then iat L (L.length - 1 - t) else iat L t
theorem swL_length (L : List Int) (i : Nat) : (swL L i).length = L.length := by simp [swL]
theorem swL_at (L : List Int) (i t : Nat) (ht : t < L.length) : iat (swL L i) t = if t < i ∨ L.length ≤ t + i then iat L (L.length - 1 - t) else iat L t := by
  show (swL L i).getD t 0 = _
  unfold swL
  rw [List.getD_eq_getElem?_getD, List.getElem?_map, List.getElem?_range ht]
  rfl
theorem swL_zero (L : List Int) : swL L 0 = L := by
  apply iat_ext (swL_length L 0)
  intro j hj
  rw [swL_length] at hj
  rw [swL_at L 0 j hj, if_neg (by omega)]
theorem swL_all (L : List Int) (i : Nat) (h : L.length ≤ 2 * i + 1) : swL L i = L.reverse := by
  apply iat_ext (by rw [swL_length, List.length_reverse])
  intro j hj
  rw [swL_length] at hj
  rw [swL_at L i j hj]
  have e : iat L.reverse j = iat L (L.length - 1 - j) := by
    unfold iat
    rw [List.getD_eq_getElem?_getD, List.getElem?_reverse hj, List.getD_eq_getElem?_getD]
  rw [e]
  split
  · rfl
  · congr 1; omega
theorem swL_step (L : List Int) (i : Nat) (h : 2 * i + 1 < L.length) : ((swL L i).set i (iat (swL L i) (L.length - 1 - i))).set (L.length - 1 - i) (iat (swL L i) i) = swL L (i + 1) := by
  apply iat_ext (by simp [swL_length])
  intro j hj
  simp only [List.length_set, swL_length] at hj
  rw [swL_at L (i + 1) j hj]
  by_cases e1 : j = L.length - 1 - i
  · rw [e1, iat_put (by simp [swL_length]; omega), swL_at L i i (by omega), if_neg (by omega), if_pos (by omega)]
    congr 1; omega
  · rw [iat_put_ne e1]
    by_cases e2 : j = i
    · rw [e2, iat_put (by rw [swL_length]; omega), swL_at L i _ (by omega), if_neg (by omega), if_pos (by omega)]
    · rw [iat_put_ne e2, swL_at L i j hj]
      by_cases c : j < i ∨ L.length ≤ j + i
      · rw [if_pos c, if_pos (by omega)]
      · rw [if_neg c, if_neg (by omega)]
set_option maxRecDepth 100000 in
set_option maxHeartbeats 8000000 in
theorem reverse58 (p : Option Addr) (c B : Nat) (L : List Int) (w : World) (h : IOwns w B (.slice p L.length c) L) (hl : L.length ≤ 100000) : Calls Try.prog 62 #[.slice p L.length c] w fun e w' => e = .returned (.tuple #[]) ∧ IOwns w' B (.slice p L.length c) L.reverse ∧ Frame w w' (fun i => (Value.slice p L.length c).ownBlock = some i) := by
  have HO := hide h
  obtain ⟨n, hn⟩ : ∃ n, L.length = n := ⟨_, rfl⟩
  have HN := hide hn
  rw [hn] at hl ⊢
  rw [hn] at HO
  clear h hn
  go_enter Try.func62, Try.ntmps62
  go_wp2_with fail
  go_loopw [2, 3] (fun t2 t3 wr => ∃ i : Nat, i ≤ n ∧ t2 = .int .i64 i ∧ t3 = .int .i64 ((n : Int) - 1 - i) ∧ Hid (IOwns wr B (.slice p n c) (swL L i)) ∧ Hid (Frame w wr (fun i => (Value.slice p n c).ownBlock = some i))) (fun t2 _ _ => n - (intOf t2).toNat)
  case atStart => exact ⟨0, by omega, rfl, by simp, by show IOwns _ _ _ _; rw [swL_zero]; exact HO.out, Frame.of_below (Below.refl _ _) _⟩
  case round =>
    obtain ⟨i, hi, rfl, rfl, HR, HF⟩ := hrel
    by_cases hlt : 2 * i + 1 < n
    · have i1 : (i : Int) < (n : Int) - 1 - i := by omega
      have hlen : (swL L i).length = n := by rw [swL_length]; exact HN.out
      obtain ⟨g, c', hg, _, _, _⟩ := iowns_block HR.out (by omega)
      simp only [Value.slice.injEq] at hg
      obtain ⟨rfl, _, rfl⟩ := hg
      have HST := hide (swL_step L i (by rw [HN.out]; exact hlt))
      rw [HN.out] at HST
      have hR := HR.out
      unfold IOwns at hR
      rw [hlen] at hR
      obtain ⟨j, hj⟩ : ∃ j, n - 1 - i = j := ⟨_, rfl⟩
      rw [hj] at HST
      have e1 : (n : Int) - 1 - i = (j : Int) := by omega
      have c1 : wr.cell? ⟨g, i, none⟩ = some (.int .i64 (iat (swL L i) i)) := by
        rw [World.ownsRow.cellAt hR i (by omega), icells, List.getElem?_map]
        unfold iat
        rw [List.getD_eq_getElem?_getD, List.getElem?_eq_getElem (by omega)]
        rfl
      have c2 : wr.cell? ⟨g, j, none⟩ = some (.int .i64 (iat (swL L i) j)) := by
        rw [World.ownsRow.cellAt hR j (by omega), icells, List.getElem?_map]
        unfold iat
        rw [List.getD_eq_getElem?_getD, List.getElem?_eq_getElem (by omega)]
        rfl
      have f1 : wr.frozen? ⟨g, i, none⟩ = false := World.ownsRow.frozenAt hR i
      have f2 : wr.frozen? ⟨g, j, none⟩ = false := World.ownsRow.frozenAt hR j
      obtain ⟨a, ha⟩ : ∃ a, iat (swL L i) i = a := ⟨_, rfl⟩
      obtain ⟨b, hb⟩ : ∃ b, iat (swL L i) j = b := ⟨_, rfl⟩
      rw [ha] at c1 HST
      rw [hb] at c2 HST
      have HR2 : Hid (((wr.setCell ⟨g, i, none⟩ (.int .i64 b)).setCell ⟨g, j, none⟩ (.int .i64 a)).ownsRow B 3 1 (.slice (some ⟨g, 0, none⟩) n c) n (icells (((swL L i).set i b).set j a))) := by
        have h2 := (World.ownsRow.stored (World.ownsRow.stored hR i (.int .i64 b)).1 j (.int .i64 a)).1
        rw [show icells (((swL L i).set i b).set j a) = ((icells (swL L i)).set i (.int .i64 b)).set j (.int .i64 a) by unfold icells; rw [List.map_set, List.map_set]]
        exact h2
      have hij : i ≠ j := by omega
      have i2 : (0 : Int) ≤ i := by omega
      have i3 : (i : Int) < n := by omega
      have i4 : (j : Int) < n := by omega
      have i5 : (0 : Int) ≤ j := by omega
      have i6 : (i : Int) < j := by omega
      rw [e1]
      have HJ := hide (And.intro hj hlen)
      have HE1 := hide e1
      clear hR ha hb i1 hj hlen e1
      go_upto_region 3 with fail
      go_region
      obtain ⟨V, hV⟩ : ∃ V, V = ((wr.setCell ⟨g, i, none⟩ (.int .i64 b)).setCell ⟨g, j, none⟩ (.int .i64 a)).drew := ⟨_, rfl⟩
      have HRV : Hid (IOwns V B (.slice (some ⟨g, 0, none⟩) n c) (swL L (i + 1))) := by
        show IOwns _ _ _ _
        unfold IOwns
        rw [← HST.out, List.length_set, List.length_set, HJ.out.2, hV]
        exact HR2.out
      have HFV : Hid (Frame w V (fun i => (Value.slice (some ⟨g, 0, none⟩) n c).ownBlock = some i)) := by
        show Frame _ _ _
        rw [hV]
        exact ((HF.out.trans (Frame.set _ ⟨g, i, none⟩ _ rfl)).trans (Frame.set _ ⟨g, j, none⟩ _ rfl)).trans (Frame.of_below (by go_grown) _)
      rw [← hV]
      clear hV HR2 HR HF c1 c2 f1 f2
      go_wp2
      go_roundw
      case rel => exact ⟨i + 1, by omega, by go_num, by have := HE1.out; congr 1; omega, HRV.out, HFV.out⟩
      case measure => simp [intOf]; omega
    · have i1 : ¬ (i : Int) < (n : Int) - 1 - i := by omega
      have HE : Hid (swL L i = L.reverse) := swL_all L i (by rw [HN.out]; omega)
      go_wp2
      go_end0
      exact ⟨rfl, by rw [← HE.out]; exact HR.out, HF.out⟩
end Go.Proofs.Ytllkadgpkbaghaa
