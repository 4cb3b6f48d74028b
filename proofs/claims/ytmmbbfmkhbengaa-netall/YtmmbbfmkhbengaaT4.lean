/- Join, in every world. -/
import Derived.Test.YtmmbbfmkhbengaaT1
import Derived.Test.YtmmbbfmkhbengaaT2
namespace Go.Proofs.Ytmmbbfmkhbengaa
open Go.RowKit Go.Sort
open Go

theorem three_nets (w : World) (n m : Int) (p q : Option Addr) (l k c d : Nat) : ∃ W, W = ((w.alloc (nbx n p l c)).alloc (nbx m q k d)).alloc (nbx 0 none 0 0) ∧ Below w.heap.size w W ∧ NOwn W w.heap.size n p l c ∧ NOwn W (w.heap.size + 1) m q k d ∧ NOwn W (w.heap.size + 1 + 1) 0 none 0 0 := by
  refine ⟨_, rfl, by go_grown, ?_, ?_, ?_⟩
  · exact ⟨by unfold nbx; go_cell, by unfold nbx; go_cell, by unfold nbx; go_cell, by unfold nbx; go_cell⟩
  · exact ⟨by unfold nbx; go_cell, by unfold nbx; go_cell, by unfold nbx; go_cell, by unfold nbx; go_cell⟩
  · exact ⟨by unfold nbx; go_cell, by unfold nbx; go_cell, by unfold nbx; go_cell, by unfold nbx; go_cell⟩
def joinL (n : Int) (a b : List Pt) : List Pt := a ++ b.map fun e => ⟨n + e.x, n + e.y⟩
theorem joinL_length (n : Int) (a b : List Pt) : (joinL n a b).length = a.length + b.length := by simp [joinL]
theorem joinL_more (n : Int) (a b : List Pt) {i : Nat} (hi : i < b.length) : joinL n a (b.take (i + 1)) = joinL n a (b.take i) ++ [⟨n + (at' b i).x, n + (at' b i).y⟩] := by
  unfold joinL
  have e : at' b i = b[i] := by unfold at'; rw [List.getD_eq_getElem?_getD, List.getElem?_eq_getElem hi]; rfl
  rw [List.take_add_one, List.getElem?_eq_getElem hi, e, List.map_append, ← List.append_assoc]
  rfl
theorem wpList_run_append {P : Program} {w : World} {ops : Array Oper} {rest : List Oper} {o : Oper} {a : Act} {Q : Exit → Act → World → Prop} (hgd : o.guard = none) (s x : Operand) (t : TypeId)
    (ho : o.op = .call { callee := .builtin .append, args := #[s, x], argTypes := #[t, t] }) (ty : TypeId) (hty : o.type = ty) (vs vx v' : Value) (w' : World) (hs : a.eval s = vs) (hx : a.eval x = vx)
    (hr : (Builtin.append_ #[t, t] ty #[vs, vx]).run P w = .ok v' w') (h : wpList P ops Q rest (a.put o.dst v') w') : wpList P ops Q (o :: rest) a w := by
  subst hty
  refine wpList_plain hgd fun K hK => ?_
  unfold Oper.wp execOp
  simp only [ho, resolve, invoke, builtin, Sem.run_bind, Sem.run_pure, Result.andThen_ok, List.map_toArray, List.map_cons, List.map_nil, hs, hx, hr]
  exact hK _ _ h
def joinE (n m : Int) (a b : List Pt) : Int := if netB n a && netB m b then (if fitsB (n + m) (a.length + b.length) then 0 else 3) else 1
def JoinPost (n m : Int) (a b : List Pt) (w : World) (e : Ending) (w' : World) : Prop :=
  (joinE n m a b = 0 ∧ ∃ q c, e = .returned (.tuple #[nv (n + m) q (joinL n a b).length c, .int .i64 0]) ∧ Owns w' w.heap.size (.slice q (joinL n a b).length c) (joinL n a b)) ∨ (joinE n m a b ≠ 0 ∧ e = .returned (.tuple #[nv 0 none 0 0, .int .i64 (joinE n m a b)]))
set_option maxRecDepth 100000 in
set_option maxHeartbeats 8000000 in
theorem join19 (n m : Int) (p q : Option Addr) (a b : List Pt) (cp cq : Nat) (w : World) (hnil : p = none → cp = 0) (h : Has w p a) (k : Has w q b) : Calls Try.prog 19 #[nv n p a.length cp, nv m q b.length cq] w fun e w' => JoinPost n m a b w e w' ∧ Below w.heap.size w w' := by
  obtain ⟨W, hW, hb, a0, b0, c0⟩ := three_nets w n m p q a.length b.length cp cq
  have M := hide (may13 n p a cp W (h.later hb))
  have HH := hide (h.later hb)
  have HK := hide (k.later hb)
  have HB := hide hb
  have HA := hide a0
  have HC := hide b0
  have HN := hide c0
  obtain ⟨q0, q1, _, _⟩ := a0
  obtain ⟨x0, x1, _, _⟩ := b0
  clear h k hb c0
  obtain ⟨i0, hi0, hz0, hz1, hz2⟩ := info_parts info60
  cases hm : netB n a
  · have hS : Hid (joinE n m a b = 1) := by show _ = _; unfold joinE; rw [hm]; rfl
    rw [hm] at M
    go_enter Try.func19, Try.ntmps19
    go_wp2_with fail
    rw [← hW]
    clear hW
    go_wp2_with fail
    refine M.out.mono ?_
    rintro e w1 ⟨rfl, hb1⟩
    have HB1 := hide (below_step HB.out hb1)
    have HN1 := hide (HN.out.later hb1)
    clear q0 q1 x0 x1 hb1 HA HN HB HH HK HC M
    obtain ⟨r0, r1, r2, r3⟩ := HN1.out
    go_wp2
    obtain ⟨V, hV⟩ : ∃ V, V = (w1.setCell ⟨w.heap.size + 1 + 1, 0, none⟩ (.int .i64 0)).setCell ⟨w.heap.size + 1 + 1, 1, none⟩ (.slice none 0 0) := ⟨_, rfl⟩
    have kV : NOwn V (w.heap.size + 1 + 1) 0 none 0 0 := by rw [hV]; exact HN1.out.set 0 none 0 0
    have bV : Below w.heap.size w V := by rw [hV]; exact (HB1.out.setCell (by simp; omega) _).setCell (by simp; omega) _
    rw [← hV]
    exact bodyPost_ret (ret_net Try.results19 rfl rfl kV) rfl ⟨Or.inr ⟨by rw [hS.out]; omega, by rw [hS.out]; rfl⟩, bV⟩
  rw [hm] at M
  obtain ⟨n0, n1, hla, hea⟩ := netB_is hm
  cases hk : netB m b
  · have hS : Hid (joinE n m a b = 1) := by show _ = _; unfold joinE; rw [hm, hk]; rfl
    go_enter Try.func19, Try.ntmps19
    go_wp2_with fail
    rw [← hW]
    clear hW
    go_wp2_with fail
    refine M.out.mono ?_
    rintro e w1 ⟨rfl, hb1⟩
    have HB1 := hide (below_step HB.out hb1)
    have HN1 := hide (HN.out.later hb1)
    have HC1 := hide (HC.out.later hb1)
    have M2 := hide (may13 m q b cq w1 (HK.out.later hb1))
    clear q0 q1 x0 x1 hb1 HA HN HB HH HK HC M hea
    rw [hk] at M2
    obtain ⟨x0, x1, _, _⟩ := HC1.out
    go_wp2_with fail
    refine M2.out.mono ?_
    rintro e w2 ⟨rfl, hb2⟩
    have HB2 := hide (below_step HB1.out hb2)
    have HN2 := hide (HN1.out.later hb2)
    clear x0 x1 hb2 HC1 HN1 M2
    obtain ⟨r0, r1, r2, r3⟩ := HN2.out
    go_wp2
    obtain ⟨V, hV⟩ : ∃ V, V = (w2.setCell ⟨w.heap.size + 1 + 1, 0, none⟩ (.int .i64 0)).setCell ⟨w.heap.size + 1 + 1, 1, none⟩ (.slice none 0 0) := ⟨_, rfl⟩
    have kV : NOwn V (w.heap.size + 1 + 1) 0 none 0 0 := by rw [hV]; exact HN2.out.set 0 none 0 0
    have bV : Below w.heap.size w V := by rw [hV]; exact (HB2.out.setCell (by simp; omega) _).setCell (by simp; omega) _
    rw [← hV]
    exact bodyPost_ret (ret_net Try.results19 rfl rfl kV) rfl ⟨Or.inr ⟨by rw [hS.out]; omega, by rw [hS.out]; rfl⟩, bV⟩
  obtain ⟨m0, m1, hlb, heb⟩ := netB_is hk
  have HEB := hide heb
  clear hea heb
  have F := fits35 (n + m) (a.length + b.length)
  cases hf : fitsB (n + m) (a.length + b.length)
  · have hS : Hid (joinE n m a b = 3) := by show _ = _; unfold joinE; rw [hm, hk, hf]; rfl
    rw [hf] at F
    go_enter Try.func19, Try.ntmps19
    go_wp2_with fail
    rw [← hW]
    clear hW
    go_wp2_with fail
    refine M.out.mono ?_
    rintro e w1 ⟨rfl, hb1⟩
    have HB1 := hide (below_step HB.out hb1)
    have HN1 := hide (HN.out.later hb1)
    have HC1 := hide (HC.out.later hb1)
    have HA1 := hide (HA.out.later hb1)
    have M2 := hide (may13 m q b cq w1 (HK.out.later hb1))
    clear q0 q1 x0 x1 hb1 HA HN HB HH HK HC M
    rw [hk] at M2
    obtain ⟨x0, x1, _, _⟩ := HC1.out
    go_wp2_with fail
    refine M2.out.mono ?_
    rintro e w2 ⟨rfl, hb2⟩
    have HB2 := hide (below_step HB1.out hb2)
    have HN2 := hide (HN1.out.later hb2)
    have HC2 := hide (HC1.out.later hb2)
    have HA2 := hide (HA1.out.later hb2)
    clear x0 x1 hb2 HC1 HN1 HA1 M2
    obtain ⟨r0, r1, r2, r3⟩ := HN2.out
    obtain ⟨x0, x1, _, _⟩ := HC2.out
    obtain ⟨q0, q1, _, _⟩ := HA2.out
    go_wp2_with (go_at_call 35; with_reducible refine (F _).mono ?_; rintro e w' ⟨rfl, hw⟩; have hw := hw.symm; subst hw)
    obtain ⟨V, hV⟩ : ∃ V, V = (w2.setCell ⟨w.heap.size + 1 + 1, 0, none⟩ (.int .i64 0)).setCell ⟨w.heap.size + 1 + 1, 1, none⟩ (.slice none 0 0) := ⟨_, rfl⟩
    have kV : NOwn V (w.heap.size + 1 + 1) 0 none 0 0 := by rw [hV]; exact HN2.out.set 0 none 0 0
    have bV : Below w.heap.size w V := by rw [hV]; exact (HB2.out.setCell (by simp; omega) _).setCell (by simp; omega) _
    rw [← hV]
    exact bodyPost_ret (ret_net Try.results19 rfl rfl kV) rfl ⟨Or.inr ⟨by rw [hS.out]; omega, by rw [hS.out]; rfl⟩, bV⟩
  have hS : Hid (joinE n m a b = 0) := by show _ = _; unfold joinE; rw [hm, hk, hf]; rfl
  rw [hf] at F
  go_enter Try.func19, Try.ntmps19
  go_wp2_with fail
  rw [← hW]
  clear hW
  go_wp2_with fail
  refine M.out.mono ?_
  rintro e w1 ⟨rfl, hb1⟩
  have HB1 := hide (below_step HB.out hb1)
  have HN1 := hide (HN.out.later hb1)
  have HC1 := hide (HC.out.later hb1)
  have HA1 := hide (HA.out.later hb1)
  have HH1 := hide (HH.out.later hb1)
  have HK1 := hide (HK.out.later hb1)
  have M2 := hide (may13 m q b cq w1 (HK.out.later hb1))
  clear q0 q1 x0 x1 hb1 HA HN HB HH HK HC M
  rw [hk] at M2
  obtain ⟨x0, x1, _, _⟩ := HC1.out
  go_wp2_with fail
  refine M2.out.mono ?_
  rintro e w2 ⟨rfl, hb2⟩
  have HB2 := hide (below_step HB1.out hb2)
  have HN2 := hide (HN1.out.later hb2)
  have HC2 := hide (HC1.out.later hb2)
  have HA2 := hide (HA1.out.later hb2)
  have HH2 := hide (HH1.out.later hb2)
  have HK2 := hide (HK1.out.later hb2)
  clear x0 x1 hb2 HC1 HN1 HA1 M2 HH1 HK1
  obtain ⟨x0, x1, _, _⟩ := HC2.out
  obtain ⟨q0, q1, _, _⟩ := HA2.out
  go_wp2_with (first | (go_at_call 35; with_reducible refine (F _).mono ?_; rintro e w' ⟨rfl, hw⟩; have hw := hw.symm; subst hw) | (refine wpList_make_own _ rfl (.const (.int .i64 0)) (.tmp 39) 22 rfl w2.heap.size 60 i0 (.agg #[.int .i64 0, .int .i64 0]) 2 Try.underlying22 hi0 hz0 hz1 .i64 .i64 _ (a.length + b.length) rfl rfl (Int.natCast_add _ _).symm ?c1 ?c2 ?c3 ?_))
  case c1 => rw [hz2]; omega
  case c2 => unfold maxLen; omega
  case c3 => exact Nat.le_refl _
  intro w3 hown hgrow
  have hb3 := below_made hgrow
  have ho3 : Owns w3 w2.heap.size (.slice (some ⟨w2.heap.size, 0, none⟩) 0 (a.length + b.length)) [] := hown
  obtain ⟨v4, w4, e4, o4, gr4⟩ := append_prs ho3 p cp a hnil (HH2.out.later hb3) hb3.size (by simp; omega)
  have hb4 : Below w2.heap.size w2 w4 := below_grown hb3 ho3 (Nat.le_refl _) hb3.size gr4
  rw [List.nil_append] at o4
  have HO4 := hide o4
  have HB4 := hide hb4
  have HA3 := hide (HA2.out.later hb3)
  have HA4 := hide (HA2.out.later hb4)
  have HC4 := hide (HC2.out.later hb4)
  clear hown hgrow hb3 ho3 o4 gr4 hb4 q0 q1 x0 x1 F hf
  obtain ⟨q0, q1, _, _⟩ := HA3.out
  obtain ⟨x0, x1, _, _⟩ := HC4.out
  go_wp2_with (at_builtin; refine wpList_run_append rfl (.tmp 41) (.tmp 43) 22 rfl 22 rfl (.slice (some ⟨w2.heap.size, 0, none⟩) 0 (a.length + b.length)) (.slice p a.length cp) v4 w4 rfl rfl e4 ?_)
  clear q0 q1 e4
  obtain ⟨q0, q1, _, _⟩ := HA4.out
  go_wp2_with fail
  clear q0 q1 x0 x1
  go_loopw [6, 48] (fun s t wr => ∃ i : Nat, i ≤ b.length ∧ t = .int .i64 i ∧ Hid (Below w2.heap.size w2 wr) ∧ Hid (Owns wr w2.heap.size s (joinL n a (b.take i)))) (fun _ t _ => b.length - (intOf t).toNat)
  case atStart => exact ⟨0, by omega, rfl, HB4.out, by show Owns _ _ _ _; rw [show joinL n a (b.take 0) = a by simp [joinL]]; exact HO4.out⟩
  case round =>
    obtain ⟨i, hi, rfl, HBr, HO⟩ := hrel
    have hTl : (joinL n a (b.take i)).length = a.length + i := by rw [joinL_length, List.length_take]; omega
    obtain ⟨q0, q1, _, _⟩ := HA2.out.later HBr.out
    obtain ⟨x0, x1, _, _⟩ := HC2.out.later HBr.out
    by_cases hlt : i < b.length
    · have hT := hide (joinL_more n a b hlt)
      obtain ⟨e0, e1, e2, e3⟩ := HEB.out i hlt
      rcases HK2.out.later HBr.out with h | ⟨be, oe, rfl, hE⟩
      · subst h; simp at hlt
      obtain ⟨d0, d1⟩ := hE i hlt
      obtain ⟨y, hy⟩ : ∃ y, at' b i = y := ⟨_, rfl⟩
      rw [hy] at d0 d1 hT e0 e1 e2 e3
      obtain ⟨T, hTT⟩ : ∃ T, joinL n a (b.take i) = T := ⟨_, rfl⟩
      rw [hTT] at HO hT hTl
      have HTL := hide hTl
      clear hE hy hTT hTl
      obtain ⟨p0, c, rfl, _, _, _, _⟩ := HO.out.form
      have hOW : wr.ownsRow w2.heap.size 60 2 (.slice p0 T.length c) T.length (cells T) := HO.out
      have hsz := HBr.out.size
      have hs0 : w.heap.size < wr.heap.size := block_lt_of_cell q0
      have hs1 : w.heap.size ≠ wr.heap.size := by omega
      go_wp2_with (at_builtin; refine wpList_append_own _ rfl _ _ 22 rfl w2.heap.size 60 i0 (.agg #[.int .i64 0, .int .i64 0]) 2 16 Try.underlying22 hi0 hz0 hz1 hz2 rfl (by decide) _ _ _ rfl (World.ownsRow.alloc (World.ownsRow.alloc hOW _) _) ⟨wr.heap.size + 1, 0, none⟩ 1 1 [.int .i64 (n + y.x), .int .i64 (n + y.y)] rfl rfl ?d1 ?d2 ?d3 ?d4 ?d5 ?_)
      case d1 =>
        intro j u hj
        match j, hj with
        | 0, hj => simp at hj; subst hj; simp [Addr.add]
        | 1, hj => simp at hj; subst hj; simp [Addr.add]
      case d2 => intro u hu; simp at hu; rcases hu with rfl | rfl <;> rfl
      case d3 => have := HTL.out; unfold maxLen; omega
      case d4 => have := HTL.out; omega
      case d5 => simp; omega
      intro v' w5 hown' hgrow _
      have ho := hide (owns_more (p := ⟨n + y.x, n + y.y⟩) hown')
      have hbg : Below w2.heap.size wr w5 := below_grown (w := (wr.alloc (bx y)).alloc (bx ⟨n + y.x, n + y.y⟩)) (by go_grown) (World.ownsRow.alloc (World.ownsRow.alloc hOW _) _) (Nat.le_refl _) (by simp; omega) hgrow
      have HBg := hide hbg
      clear hown' hgrow hbg hOW
      go_wp2
      go_roundw
      case rel => exact ⟨i + 1, by omega, by go_num, Below.trans HBr.out HBg.out, by rw [hT.out]; exact ho.out⟩
      case measure => simp [intOf]; omega
    · have hin : i = b.length := by omega
      subst hin
      rw [List.take_length] at HO hTl
      obtain ⟨T, hTT⟩ : ∃ T, joinL n a b = T := ⟨_, rfl⟩
      have HTT := hide hTT
      rw [hTT] at HO hTl
      have HTL := hide hTl
      clear hTl hTT
      obtain ⟨p0, c, rfl, _, _, _, _⟩ := HO.out.form
      have HN5 := hide (HN2.out.later HBr.out)
      have HB5 := hide (below_step HB2.out HBr.out)
      have hws : w.heap.size + 1 + 1 < w2.heap.size := block_lt_of_cell HN2.out.1
      obtain ⟨r0, r1, r2, r3⟩ := HN5.out
      go_wp2
      obtain ⟨V, hV⟩ : ∃ V, V = (wr.setCell ⟨w.heap.size + 1 + 1, 0, none⟩ (.int .i64 (n + m))).setCell ⟨w.heap.size + 1 + 1, 1, none⟩ (.slice p0 T.length c) := ⟨_, rfl⟩
      have kV : NOwn V (w.heap.size + 1 + 1) (n + m) p0 T.length c := by rw [hV]; exact HN5.out.set _ _ _ _
      have bV : Below w.heap.size w V := by rw [hV]; exact (HB5.out.setCell (by simp; omega) _).setCell (by simp; omega) _
      have oV : Owns V w.heap.size (.slice p0 T.length c) T := by rw [hV]; exact (owns_other (owns_other HO.out hws _) hws _).base HB2.out.size
      rw [← hV]
      exact bodyPost_ret (ret_net Try.results19 rfl rfl kV) rfl ⟨Or.inl ⟨hS.out, p0, c, by rw [HTT.out]; rfl, by rw [HTT.out]; exact oV⟩, bV⟩
end Go.Proofs.Ytmmbbfmkhbengaa
