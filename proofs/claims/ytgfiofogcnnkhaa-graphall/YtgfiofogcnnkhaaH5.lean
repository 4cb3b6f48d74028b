/- Edges, slices.Values. -/
import Derived.Test.YtgfiofogcnnkhaaH4
namespace Go.Proofs.Ytgfiofogcnnkhaa
open Go.RowKit Go.Sort
open Go

def idN (G : Gr) (v : Int) : Nat → List Int
  | 0 => []
  | k + 1 => idN G v k ++ [(eat G.es (iat (plAt G v) k).toNat).id]
def idAt (G : Gr) (v : Int) : List Int := idN G v (plAt G v).length
theorem idN_length (G : Gr) (v : Int) : ∀ k, (idN G v k).length = k
  | 0 => rfl
  | k + 1 => by simp only [idN, List.length_append, idN_length G v k]; rfl
theorem pl_at {G : Gr} {v : Int} {k : Nat} (hk : k < (plAt G v).length) : ∃ j : Nat, iat (plAt G v) k = j ∧ j < G.es.length ∧ ((eat G.es j).a = v ∨ (eat G.es j).b = v) := by
  have hm : iat (plAt G v) k ∈ plAt G v := by
    unfold iat
    rw [List.getD_eq_getElem?_getD, List.getElem?_eq_getElem hk]
    exact List.getElem_mem _
  obtain ⟨j, h1, h2, h3⟩ := atN_mem.1 (show iat (plAt G v) k ∈ atN G.es v G.es.length from hm)
  exact ⟨j, h2, h1, h3⟩
theorem values67 (p : Option Addr) (n c : Nat) (w : World) : Calls Try.prog 67 #[.slice p n c] w fun e w' => e = .returned (.func (.func 94) #[] #[ptr w.heap.size]) ∧ w' = w.alloc (.cells #[.slice p n c] 38) := by
  go_enter Try.func67, Try.ntmps67
  go_wp2
  go_ret
  exact ⟨rfl, rfl⟩
def EdgesPost (w : World) (l : List Int) (e : Ending) (w' : World) : Prop := ∃ kx p c, e = .returned (.func (.func 94) #[] #[ptr kx]) ∧ w'.cell? ⟨kx, 0, none⟩ = some (.slice p l.length c) ∧ IOwns w' w.heap.size (.slice p l.length c) l ∧ w.heap.size ≤ kx ∧ Below w.heap.size w w'
theorem edges26nil (v : Int) (w : World) : Calls Try.prog 26 #[.pointer none, .int .i64 v] w (EdgesPost w []) := by
  have A := none50nil w
  have V := values67 none 0 0 w
  go_enter Try.func26, Try.ntmps26
  go_wp2_with (first | (go_at_call 50; refine A.mono ?_; rintro e w' ⟨rfl, hw⟩; have hw2 := hw.symm; subst hw2) | (go_at_call 67; refine V.mono ?_; rintro e w' ⟨rfl, rfl⟩))
  go_ret
  exact ⟨w.heap.size, none, 0, rfl, by go_cell, IOwns.nil _ _, Nat.le_refl _, by go_grown⟩
set_option maxRecDepth 100000 in
set_option maxHeartbeats 8000000 in
theorem edges26 (b : Nat) (s : GV) (G : Gr) (v : Int) (w : World) (h : GAt w b s G) (hl : G.es.length ≤ 5000) : Calls Try.prog 26 #[ptr b, .int .i64 v] w (EdgesPost w (idAt G v)) := by
  have A := none50 b s G w h
  have P := hide (placesAt56 b s G v w h hl)
  obtain ⟨pn, cn, pe, ce, pm, cm, pd, cd, _, hs, _⟩ := h.form
  have HH := hide h
  have HSS := hide hs
  clear h hs
  go_enter Try.func26, Try.ntmps26
  go_wp2_with (first | (go_at_call 50; refine A.mono ?_; rintro e w' ⟨rfl, hw⟩; have hw2 := hw.symm; subst hw2) | (go_at_call 56; refine P.out.mono ?_; rintro e w1 ⟨p1, c1, rfl, o1, hb1⟩; have HO1 := hide o1; have HB1 := hide hb1; clear o1 hb1))
  clear A P
  obtain ⟨N, hN⟩ : ∃ N, (plAt G v).length = N := ⟨_, rfl⟩
  have hNl : N ≤ 5000 := by rw [← hN]; exact Nat.le_trans (atN_length _ _ _) hl
  rw [hN]
  have HN := hide hN
  rw [hN] at HO1
  clear hN
  go_loopw [5, 15] (fun t5 t15 wr => ∃ k : Nat, k ≤ N ∧ t15 = .int .i64 k ∧ Hid (Below w1.heap.size w1 wr) ∧ Hid (IOwns wr w1.heap.size t5 (idN G v k))) (fun _ t15 _ => N - (intOf t15).toNat)
  case atStart => exact ⟨0, by omega, rfl, Below.refl _ _, IOwns.nil _ _⟩
  case round =>
    obtain ⟨k, hk, rfl, HBr, HOr⟩ := hrel
    obtain ⟨p5, c5, h5, _⟩ := HOr.out.form
    rw [idN_length] at h5
    subst h5
    by_cases hlt : k < N
    · obtain ⟨j, hj1, hj2, _⟩ := pl_at (G := G) (v := v) (k := k) (by rw [HN.out]; exact hlt)
      have hgr := HH.out.later (below_step HB1.out HBr.out)
      have oe := hgr.edg
      rw [HSS.out] at oe
      rcases own_ehas oe with h | ⟨g, rfl, hc⟩
      · rw [h] at hj2; simp at hj2
      obtain ⟨c0, _, _⟩ := hc j hj2
      have q2 := hgr.cells.2.2.1
      rw [HSS.out] at q2
      have cp : wr.cell? ⟨b, 2, none⟩ = some (.slice (some ⟨g, 0, none⟩) G.es.length ce) := q2
      clear hc oe q2
      have ho1 := (HO1.out.later HBr.out)
      rcases own_ihas ho1 with h | ⟨g1, f1, rfl, hL⟩
      · have := HN.out; rw [h] at this; simp at this; omega
      have ck := hL k (by rw [HN.out]; exact hlt)
      rw [hj1] at ck
      clear hL ho1
      obtain ⟨x, hx⟩ : ∃ x, eat G.es j = x := ⟨_, rfl⟩
      have HST : Hid (idN G v (k + 1) = idN G v k ++ [x.id]) := by
        show idN G v k ++ [(eat G.es (iat (plAt G v) k).toNat).id] = _
        rw [hj1, Int.toNat_natCast, hx]
      rw [hx] at c0
      have e1 : (k : Int) < N := by omega
      have e0 : (0 : Int) ≤ k := by omega
      have e2 : (j : Int) < G.es.length := by omega
      have e3 : (0 : Int) ≤ j := by omega
      obtain ⟨p6, c6, D, e6, o6, gr6⟩ := push_int (x := x.id) HOr.out HBr.out.size (by rw [idN_length]; omega)
      have HO6 := hide o6
      have HB6 := hide (below_grown HBr.out HOr.out (Nat.le_refl _) HBr.out.size gr6)
      rw [idN_length] at e6 HO6
      clear o6 gr6 hx hj1 hgr
      go_wp2_with (at_builtin; refine wpList_run_append rfl (.tmp 19) (.tmp 28) 38 rfl 38 rfl _ _ _ D rfl rfl e6 ?_)
      go_roundw
      case rel => exact ⟨k + 1, by omega, by go_num, HB6.out, by show IOwns _ _ _ _; rw [HST.out]; exact HO6.out⟩
      case measure => simp [intOf]; omega
    · have hke : k = N := by omega
      have e1 : ¬ (k : Int) < N := by omega
      have HE : Hid (IOwns wr w1.heap.size (.slice p5 k c5) (idAt G v) ∧ (idAt G v).length = k) := by
        have h1 : idAt G v = idN G v k := by unfold idAt; rw [HN.out, hke]
        rw [h1]
        exact ⟨HOr.out, idN_length _ _ _⟩
      clear hke
      have V := values67 p5 k c5 wr
      go_wp2_with (go_at_call 67; refine V.mono ?_; rintro e w' ⟨rfl, rfl⟩)
      go_ret
      have hb := below_step HB1.out HBr.out
      refine ⟨wr.heap.size, p5, c5, rfl, ?_, ?_, hb.size, below_step hb (by go_grown)⟩
      · rw [HE.out.2]; go_cell
      · rw [HE.out.2]
        exact (HE.out.1.later (by go_grown)).base HB1.out.size
end Go.Proofs.Ytgfiofogcnnkhaa
