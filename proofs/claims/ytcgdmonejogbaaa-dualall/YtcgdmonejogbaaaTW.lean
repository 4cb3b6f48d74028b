/- law9's Twin and Kept: a rotation in memory of its own, marks behind each list and behind all. -/
import Derived.Test.YtcgdmonejogbaaaE6
import Derived.Test.YtcgdmonejogbaaaY14
import Derived.Test.YtcgdmonejogbaaaW5
import Derived.Test.YtcgdmonejogbaaaY5
open List renaming getElem_toArray → lA, getElem_cons_zero → lB, getElem_cons_succ → lC, setIfInBounds_toArray → lD, set_cons_zero → lE, set_cons_succ → lF
namespace Go.Proofs.Ytcgdmonejogbaaa
open Go.RowKit Go.Sort
open Go
theorem append_intsB {w : World} {base : Nat} {v : Value} {l : List Int} (ho : IOwns w base v l) (p : Option Addr) (cap : Nat) (qs : List Int) (hnil : p = none → cap = 0) (hq : IHas w p qs) (hb : base ≤ w.heap.size) (hl : (l.length + qs.length) * 8 ≤ 140737488355328) :
    ∃ v' w', (Builtin.append_ #[44, 44] 44 #[v, .slice p qs.length cap]).run Try.prog w = .ok v' w' ∧ IOwns w' base v' (l ++ qs) ∧ w.grownBy w' v.ownBlock := by
  obtain ⟨i0, hi0, hz0, hz1, hz2⟩ := info_parts info3
  cases p with
  | none =>
    have hqs : qs = [] := by
      rcases hq with h | ⟨b, off, h, _⟩
      · exact h
      · cases h
    subst hqs
    rw [hnil rfl]
    exact ⟨v, w, run_append_owned_none (P := Try.prog) (w := w) base 44 44 3 i0 1 Try.underlying44 hi0 v l.length (icells l) ho, by rw [List.append_nil]; exact ho, grownBy_refl _ _⟩
  | some a =>
    have hnews : ∀ j u, (icells qs)[j]? = some u → w.cell? (a.add j) = some u := by
      rcases hq with h | ⟨b, off, h, hL⟩
      · subst h; intro j u hj; simp [icells] at hj
      · cases h
        intro j u hj
        rw [icells, List.getElem?_map] at hj
        cases hq2 : qs[j]? with
        | none => rw [hq2] at hj; cases hj
        | some x =>
          rw [hq2] at hj
          cases hj
          have hjl : j < qs.length := (List.getElem?_eq_some_iff.1 hq2).1
          rw [Go.WideShapes.add_plain, hL j hjl]
          unfold iat
          rw [List.getD_eq_getElem?_getD, hq2]
          rfl
    obtain ⟨v', w', h1, h2, h3, _⟩ := run_append_own (P := Try.prog) w base 44 44 3 i0 (.int .i64 0) 1 8 Try.underlying44 hi0 hz0 hz1 hz2 rfl (by decide) v l.length (icells l) ho a qs.length cap (icells qs) (by simp [icells]) hnews (by intro u hu; rw [icells, List.mem_map] at hu; obtain ⟨x, _, rfl⟩ := hu; rfl) (by unfold maxLen; omega) (by omega) hb
    refine ⟨v', w', h1, ?_, h3⟩
    unfold IOwns
    rw [List.length_append, show icells (l ++ qs) = icells l ++ icells qs by simp [icells]]
    exact h2
theorem append_intB {w : World} {base k : Nat} {v : Value} {l : List Int} {x : Int} (o : IOwns w base v l) (hk : w.cell? ⟨k, 0, none⟩ = some (.int .i64 x)) (hb : base ≤ w.heap.size) (hl : (l.length + 1) * 8 ≤ 140737488355328) :
    ∃ v' w', (Builtin.append_ #[44, 44] 44 #[v, .slice (some ⟨k, 0, none⟩) 1 1]).run Try.prog w = .ok v' w' ∧ IOwns w' base v' (l ++ [x]) ∧ w.grownBy w' v.ownBlock ∧ (v'.ownBlock = v.ownBlock ∨ v'.ownBlock = some w.heap.size) := by
  obtain ⟨i0, hi0, hz0, hz1, hz2⟩ := info_parts info3
  have hnews : ∀ j u, [Value.int .i64 x][j]? = some u → w.cell? ((⟨k, 0, none⟩ : Addr).add j) = some u := by
    intro j u hj
    cases j with
    | zero => simp at hj; subst hj; exact hk
    | succ k => simp at hj
  obtain ⟨v', w', h1, h2, h3, _, h5⟩ := run_append_own_at (P := Try.prog) w base 44 44 3 i0 (.int .i64 0) 1 8 Try.underlying44 hi0 hz0 hz1 hz2 rfl (by decide) v l.length (icells l) o ⟨k, 0, none⟩ 1 1 [.int .i64 x] rfl hnews (by simp [Value.oneCell']) (by unfold maxLen; omega) (by omega) hb
  exact ⟨v', w', h1, iowns_more h2, h3, h5⟩
theorem append_lst26B {w : World} {base g n : Nat} {v x : Value} {xs : List Value} (o : w.ownsRow base 44 1 v n xs) (hk : w.cell? ⟨g, 0, none⟩ = some x) (hx : x.oneCell' = true) (hb : base ≤ w.heap.size) (hl : (n + 1) * 24 ≤ 140737488355328) :
    ∃ v' w', (Builtin.append_ #[26, 26] 26 #[v, .slice (some ⟨g, 0, none⟩) 1 1]).run Try.prog w = .ok v' w' ∧ w'.ownsRow base 44 1 v' (n + 1) (xs ++ [x]) ∧ w.grownBy w' v.ownBlock ∧ (v'.ownBlock = v.ownBlock ∨ v'.ownBlock = some w.heap.size) := by
  obtain ⟨i0, hi0, hz0, hz1, hz2⟩ := info_parts info41
  have hnews : ∀ j u, [x][j]? = some u → w.cell? ((⟨g, 0, none⟩ : Addr).add j) = some u := by
    intro j u hj
    cases j with
    | zero => simp at hj; subst hj; exact hk
    | succ k => simp at hj
  obtain ⟨v', w', h1, h2, h3, _, h5⟩ := run_append_own_at (P := Try.prog) w base 26 26 44 i0 (.slice none 0 0) 1 24 Try.underlying26 hi0 hz0 hz1 hz2 rfl (by decide) v n xs o ⟨g, 0, none⟩ 1 1 [x] rfl hnews (by simp [hx]) (by unfold maxLen; omega) (by omega) hb
  exact ⟨v', w', h1, h2, h3, h5⟩
set_option maxRecDepth 100000 in
theorem FB.push26B {w : World} {B : Nat} {fv : Value} {F : List (List Int)} {rv : Nat → Value} {L : List Int} {a : Option Addr} {b c : Nat} (h : FB w B fv F rv) (hB : B ≤ w.heap.size) (hx : IOwns w B (.slice a b c) L) (hn : ∀ u j, u < F.length → (Value.slice a b c).ownBlock = some j → (rv u).ownBlock ≠ some j) (hl : (F.length + 1) * 24 ≤ 140737488355328) :
    ∃ p1 l1 c1 D, (Builtin.append_ #[26, 26] 26 #[fv, .slice (some ⟨w.heap.size, 0, none⟩) 1 1]).run Try.prog (w.alloc (.cells #[.slice a b c] 44)) = .ok (.slice p1 l1 c1) D ∧ l1 = F.length + 1 ∧ FB D B (.slice p1 l1 c1) (F ++ [L]) (upd rv F.length (.slice a b c)) ∧ Below B w D ∧ (∀ v l, IOwns w B v l → IOwns D B v l) := by
  have hb1 : Below w.heap.size w (w.alloc (.cells #[.slice a b c] 44)) := by go_grown
  have h1 := h.later hb1
  have hB1 : B ≤ (w.alloc (.cells #[.slice a b c] 44)).heap.size := Nat.le_trans hB hb1.size
  obtain ⟨v1, D, e1, o1, gr, at1⟩ := append_lst26B (g := w.heap.size) (x := .slice a b c) h1.lst (by go_cell) rfl hB1 (by omega)
  obtain ⟨p1, c1, hv1, _, _⟩ := World.ownsRow.form o1 (by omega)
  subst hv1
  have down : ∀ v l, IOwns (w.alloc (.cells #[.slice a b c] 44)) B v l → IOwns D B v l := fun v l o => by
    refine World.ownsRow.kept o gr ?_
    cases hb : v.ownBlock with
    | none => exact Or.inl rfl
    | some j => exact Or.inr (fun e => lst_apart h1.lst o e.symm hb)
  have hlen : (F ++ [L]).length = F.length + 1 := by simp
  refine ⟨some ⟨p1, 0, none⟩, F.length + 1, c1, D, e1, rfl, ⟨?_, ?_, ?_⟩, below_grown (hb1.mono hB) h1.lst (Nat.le_refl _) hB1 gr, fun v l o => down v l (o.later hb1)⟩
  · rw [hlen, show ((List.range (F.length + 1)).map (upd rv F.length (.slice a b c))) = (List.range F.length).map rv ++ [.slice a b c] from ?_]
    · exact o1
    rw [List.range_succ, List.map_append, List.map_cons, List.map_nil, upd_same]
    congr 1
    apply List.map_congr_left
    intro i hi
    have := List.mem_range.1 hi
    exact upd_other _ _ (by omega)
  · rw [hlen]
    intro u v j hu hv e2 e3
    by_cases hu' : u = F.length <;> by_cases hv' : v = F.length
    · omega
    · rw [hu', upd_same] at e2
      rw [upd_other _ _ hv'] at e3
      exact absurd e3 (hn v j (by omega) e2)
    · rw [hv', upd_same] at e3
      rw [upd_other _ _ hu'] at e2
      exact absurd e2 (hn u j (by omega) e3)
    · rw [upd_other _ _ hu'] at e2
      rw [upd_other _ _ hv'] at e3
      exact h.uniq u v j (by omega) (by omega) e2 e3
  · rw [hlen]
    intro v hv
    rw [lat_snoc]
    by_cases hv' : v = F.length
    · rw [hv', upd_same, if_neg (by omega), if_pos rfl]
      exact down _ _ (hx.later hb1)
    · rw [upd_other _ _ hv', if_pos (by omega)]
      exact down _ _ (h1.own v (by omega))
theorem own_form {w : World} {B : Nat} {v : Value} {l : List Int} (o : IOwns w B v l) (h : 0 < l.length) : ∃ g c, v = .slice (some ⟨g, 0, none⟩) l.length c ∧ l.length ≤ c := by
  obtain ⟨_, ⟨h1, h2⟩ | ⟨g, c, cur, h1, _, _, h4, _⟩⟩ := o
  · omega
  · exact ⟨g, c, h1, h4⟩
/-- The list without what stands last. -/
theorem own_less {w : World} {B g c : Nat} {l : List Int} {x : Int} (o : IOwns w B (.slice (some ⟨g, 0, none⟩) (l.length + 1) c) (l ++ [x])) : IOwns w B (.slice (some ⟨g, 0, none⟩) l.length c) l := by
  obtain ⟨h0, ⟨h1, h2⟩ | ⟨g1, c1, cur, h1, h2, h3, h4, h5, h6, h7⟩⟩ := o
  · simp at h2
  · injection h1 with e1 _ e3
    injection e1 with e1
    injection e1 with e1
    subst e1
    subst e3
    rw [List.length_append, List.length_singleton] at h4 h7
    refine ⟨by simp [icells], Or.inr ⟨g, c, cur, rfl, h2, h3, by omega, h5, h6, ?_⟩⟩
    have : (cur.toList.take ((l.length + 1) * 1)).take (l.length * 1) = (icells (l ++ [x])).take (l.length * 1) := by rw [h7]
    rw [List.take_take, Nat.min_eq_left (by omega)] at this
    rw [this]
    simp [icells]
/-- A list, a mark behind it. -/
def TMk (w : World) (B : Nat) (rs : List (List Int)) (rv : Nat → Value) (u : Nat) : Prop := ∃ gv cv, rv u = .slice (some ⟨gv, 0, none⟩) (lat rs u).length cv ∧ IOwns w B (.slice (some ⟨gv, 0, none⟩) ((lat rs u).length + 1) cv) (lat rs u ++ [-77])
structure TI (w : World) (B : Nat) (rs : List (List Int)) (v : Nat) (fv : Value) (rv : Nat → Value) : Prop where
  fb : FB w B fv (rs.take v) rv
  mks : ∀ u, u < v → TMk w B rs rv u
theorem TI.later {w w' : World} {B v : Nat} {rs : List (List Int)} {fv : Value} {rv : Nat → Value} (h : TI w B rs v fv rv) (hb : Below w.heap.size w w') : TI w' B rs v fv rv :=
  ⟨h.fb.later hb, fun u hu => by obtain ⟨gv, cv, h1, h2⟩ := h.mks u hu; exact ⟨gv, cv, h1, h2.later hb⟩⟩
theorem TI.step {w V : World} {B v gv cv la c3 : Nat} {p3 : Option Addr} {rs : List (List Int)} {rv : Nat → Value} (h : TI w B rs v (.slice p3 v c3) rv) (hb : Below w.heap.size w V) (hB : B ≤ w.heap.size) (hv : v < rs.length) (hla : (lat rs v).length = la) (o : IOwns V w.heap.size (.slice (some ⟨gv, 0, none⟩) (la + 1) cv) (lat rs v ++ [-77])) (hl : (rs.length + 1) * 24 ≤ 140737488355328) :
    ∃ p1 c1 D, (Builtin.append_ #[26, 26] 26 #[.slice p3 v c3, .slice (some ⟨V.heap.size, 0, none⟩) 1 1]).run Try.prog (V.alloc (.cells #[.slice (some ⟨gv, 0, none⟩) la cv] 44)) = .ok (.slice p1 (v + 1) c1) D ∧ TI D B rs (v + 1) (.slice p1 (v + 1) c1) (upd rv v (.slice (some ⟨gv, 0, none⟩) la cv)) ∧ Below B w D := by
  have h' := h.later hb
  have o1 := o
  rw [← hla] at o1
  have o2 := own_less o1
  rw [hla] at o2
  have hlt : (rs.take v).length = v := by rw [List.length_take]; omega
  have hgv := (World.ownsRow.lt o gv rfl).1
  obtain ⟨p1, l1, c1, D, e, el, fb, bd, dn⟩ := h'.fb.push26B (Nat.le_trans hB hb.size) (o2.base hB) (fun u j hu hj => by
    have e1 : gv = j := by simpa [Value.ownBlock] using hj
    rw [hlt] at hu
    intro hk
    have := (World.ownsRow.lt (h.fb.own u (by rw [hlt]; exact hu)) j hk).2
    omega) (by rw [hlt]; omega)
  rw [hlt] at el fb
  subst el
  refine ⟨p1, c1, D, e, ⟨?_, fun u hu => ?_⟩, (hb.mono hB).trans bd⟩
  · rw [lat_drop hv]; exact fb
  · by_cases huv : u = v
    · subst huv
      refine ⟨gv, cv, by rw [upd_same, hla], ?_⟩
      rw [hla]
      exact dn _ _ (o.base hB)
    · obtain ⟨g2, c2, a1, a2⟩ := h'.mks u (by omega)
      exact ⟨g2, c2, by rw [upd_other _ _ huv]; exact a1, dn _ _ a2⟩
theorem row_less {w : World} {B g c n e : Nat} {xs : List Value} {x : Value} (o : w.ownsRow B e 1 (.slice (some ⟨g, 0, none⟩) (n + 1) c) (n + 1) (xs ++ [x])) : w.ownsRow B e 1 (.slice (some ⟨g, 0, none⟩) n c) n xs := by
  obtain ⟨h0, ⟨h1, h2⟩ | ⟨g1, c1, cur, h1, h2, h3, h4, h5, h6, h7⟩⟩ := o
  · simp at h2
  · injection h1 with e1 _ e3
    injection e1 with e1
    injection e1 with e1
    subst e1
    subst e3
    rw [List.length_append, List.length_singleton] at h0
    refine ⟨by omega, Or.inr ⟨g, c, cur, rfl, h2, h3, by omega, h5, h6, ?_⟩⟩
    have : (cur.toList.take ((n + 1) * 1)).take (n * 1) = (xs ++ [x]).take (n * 1) := by rw [h7]
    rw [List.take_take, Nat.min_eq_left (by omega)] at this
    rw [this, List.take_append_of_le_length (by omega), List.take_of_length_le (by omega)]
/-- The twin of a rotation. -/
structure TwR (w : World) (B g c : Nat) (rs : List (List Int)) (rv : Nat → Value) : Prop where
  fb : FB w B (.slice (some ⟨g, 0, none⟩) rs.length c) rs rv
  cap : rs.length + 1 ≤ c
  mks : ∀ u, u < rs.length → TMk w B rs rv u
  top : ∃ gm, w.cell? ⟨g, rs.length, none⟩ = some (.slice (some ⟨gm, 0, none⟩) 1 1) ∧ w.cell? ⟨gm, 0, none⟩ = some (.int .i64 (-78))
theorem TwR.later {w w' : World} {B g c : Nat} {rs : List (List Int)} {rv : Nat → Value} (h : TwR w B g c rs rv) (hb : Below w.heap.size w w') : TwR w' B g c rs rv :=
  ⟨h.fb.later hb, h.cap, fun u hu => by obtain ⟨gv, cv, h1, h2⟩ := h.mks u hu; exact ⟨gv, cv, h1, h2.later hb⟩, by obtain ⟨gm, h1, h2⟩ := h.top; exact ⟨gm, Ytcgdmonejogbaaa.later hb h1, Ytcgdmonejogbaaa.later hb h2⟩⟩
theorem TI.top {w : World} {B c3 : Nat} {p3 : Option Addr} {rs : List (List Int)} {rv : Nat → Value} (h : TI w B rs rs.length (.slice p3 rs.length c3) rv) (hB : B ≤ w.heap.size) (hl : (rs.length + 1) * 24 ≤ 140737488355328) :
    ∃ g c1 rv' D, (Builtin.append_ #[26, 26] 26 #[.slice p3 rs.length c3, .slice (some ⟨w.heap.size + 1, 0, none⟩) 1 1]).run Try.prog ((w.alloc (.cells #[.int .i64 (-78)] 3)).alloc (.cells #[.slice (some ⟨w.heap.size, 0, none⟩) 1 1] 44)) = .ok (.slice (some ⟨g, 0, none⟩) (rs.length + 1) c1) D ∧ TwR D B g c1 rs rv' ∧ Below B w D := by
  obtain ⟨V, hV⟩ : ∃ V, V = w.alloc (.cells #[.int .i64 (-78)] 3) := ⟨_, rfl⟩
  have hb : Below w.heap.size w V := by rw [hV]; go_grown
  have hs : V.heap.size = w.heap.size + 1 := by rw [hV]; simp
  have o : IOwns V w.heap.size (.slice (some ⟨w.heap.size, 0, none⟩) 1 1) [-78] := by
    rw [hV]
    exact ⟨rfl, Or.inr ⟨w.heap.size, 1, _, rfl, Nat.le_refl _, heap_alloc_new w _, Nat.le_refl _, by unfold maxLen; omega, rfl, rfl⟩⟩
  have h' := h.later hb
  obtain ⟨p1, l1, c1, D, e, el, fb, bd, dn⟩ := h'.fb.push26B (Nat.le_trans hB hb.size) (o.base hB) (fun u j hu hj => by
    have e1 : w.heap.size = j := by simpa [Value.ownBlock] using hj
    intro hk
    have := (World.ownsRow.lt (h.fb.own u hu) j hk).2
    omega) (by rw [List.length_take]; omega)
  rw [List.take_length] at el fb
  subst el
  obtain ⟨g, c, hp, hc⟩ : ∃ g c, Value.slice p1 (rs.length + 1) c1 = .slice (some ⟨g, 0, none⟩) (rs.length + 1) c ∧ rs.length + 1 ≤ c := by
    obtain ⟨_, ⟨h1, h2⟩ | ⟨g, c, cur, h1, _, _, h4, _⟩⟩ := fb.lst
    · simp at h2
    · rw [List.length_append, List.length_singleton] at h1 h4; exact ⟨g, c, h1, h4⟩
  injection hp with e1 _ e3
  subst e1
  subst e3
  rw [← hV, ← hs]
  have hlen : (rs ++ [[(-78 : Int)]]).length = rs.length + 1 := by simp
  refine ⟨g, c1, upd rv rs.length (.slice (some ⟨w.heap.size, 0, none⟩) 1 1), D, e, ⟨⟨?_, ?_, ?_⟩, hc, fun u hu => ?_, ?_⟩, (hb.mono hB).trans bd⟩
  · have l := fb.lst
    rw [hlen, List.range_succ, List.map_append, List.map_cons, List.map_nil] at l
    exact row_less l
  · intro u v j hu hv
    exact fb.uniq u v j (by rw [hlen]; omega) (by rw [hlen]; omega)
  · intro v hv
    have := fb.own v (by rw [hlen]; omega)
    rw [lat_snoc, if_pos hv] at this
    exact this
  · obtain ⟨g2, c2, a1, a2⟩ := h'.mks u hu
    refine ⟨g2, c2, ?_, dn _ _ a2⟩
    rw [upd_other _ _ (by omega)]
    exact a1
  · refine ⟨w.heap.size, ?_, ?_⟩
    · have l0 := fb.lst
      rw [hlen] at l0
      have l := World.ownsRow.cellAt l0 rs.length (by omega)
      rw [l]
      simp [upd_same]
    · have o2 : IOwns D B (.slice (some ⟨w.heap.size, 0, none⟩) 1 1) [-78] := dn _ _ (o.base hB)
      have := IOwns.at_ (l := [(-78 : Int)]) o2 (j := 0) (by simp)
      exact this
set_option maxRecDepth 100000 in
set_option maxHeartbeats 16000000 in
theorem twin13 (q : Option Addr) (rs : List (List Int)) (cq : Nat) (w : World) (hr : RHas w q rs) (hn : (rs.length + 1) * 24 ≤ 140737488355328) (hl : ∀ v, v < rs.length → ((lat rs v).length + 1) * 8 ≤ 140737488355328) : Calls Try.prog 13 #[.slice q rs.length cq] w fun e w' => ∃ g c rv, e = .returned (.slice (some ⟨g, 0, none⟩) rs.length c) ∧ TwR w' w.heap.size g c rs rv ∧ Below w.heap.size w w' := by
  have HR := hide hr
  have HLL := hide hl
  have HT0 : Hid (TI w w.heap.size rs 0 (.slice none 0 0) (fun _ => .slice none 0 0)) := ⟨FB.nil _ _, fun u hu => by omega⟩
  clear hr hl
  go_enter Try.func13, Try.ntmps13
  go_wp2_with fail
  go_loopw [3, 4] (fun t3 t4 wr => ∃ (v : Nat) (p3 : Option Addr) (c3 : Nat) (rv : Nat → Value), v ≤ rs.length ∧ t4 = .int .i64 v ∧ t3 = .slice p3 v c3 ∧ Hid (Below w.heap.size w wr) ∧ Hid (TI wr w.heap.size rs v (.slice p3 v c3) rv)) (fun _ t4 _ => rs.length - (intOf t4).toNat)
  case atStart => exact ⟨0, none, 0, _, by omega, rfl, rfl, Below.refl _ _, HT0.out⟩
  case round =>
    obtain ⟨v, p3, c3, rv, hv, rfl, rfl, HBWr, HTR⟩ := hrel
    clear HT0
    by_cases hvr : v < rs.length
    · have e1 : (v : Int) < rs.length := by omega
      obtain ⟨bR, oR, aR, kR, rfl, cR, mR, _, hkR, hnR⟩ := HR.out.at_ hvr
      obtain ⟨la, hla⟩ : ∃ l, (lat rs v).length = l := ⟨_, rfl⟩
      rw [hla] at cR hkR
      have hlb := HLL.out v hvr
      rw [hla] at hlb
      have HLA := hide hla
      have HNR := hide hnR
      have HBW : Hid (w.heap.size ≤ wr.heap.size) := HBWr.out.size
      have HS2 : Hid (∀ V, Below w.heap.size wr V → V.cell? ⟨bR, oR + v, none⟩ = some (.slice aR la kR)) := fun V hV => later (HBWr.out.trans hV) cR
      have HS : Hid (∀ V, Below wr.heap.size wr V → V.cell? ⟨bR, oR + v, none⟩ = some (.slice aR la kR)) := fun V hV => HS2.out V (hV.mono HBW.out)
      have HIR : Hid (∀ V, Below wr.heap.size wr V → IHas V aR (lat rs v)) := fun V hV => (mR.later HBWr.out).later hV
      clear hla hnR cR mR
      go_upto_region 5 with fail
      have s0 := HS.out _ (below_drew wr)
      refine wp_region_held_drew (S := (fun V => V.cell? ⟨bR, oR + v, none⟩ = some (.slice aR la kR))) (by kernel_rfl) s0 (fun hHeld => ?_)
      obtain ⟨V0, hV0⟩ : ∃ V, V = wr.drew := ⟨_, rfl⟩
      have HB0 : Hid (Below wr.heap.size wr V0) := by show Below _ _ _; rw [hV0]; exact below_drew _
      rw [← hV0] at hHeld s0 ⊢
      clear hV0
      refine wpAnyH_take (i := 0) (v := ?v1) rfl (by kernel_rfl) (by kernel_rfl) (by kernel_rfl) (fun _ _ _ h => h) (Or.inl ⟨by rfl, ?hy1⟩) (by assumption) ?rest1
      case hy1 => (intro w hSw; (try dsimp only at hSw); go_simp; try with_reducible rfl)
      try simp only [Act.put, lA, lB, lD, lE, lF]
      refine wpAnyH_take (i := 1) (v := ?v2) rfl (by kernel_rfl) (by kernel_rfl) (by kernel_rfl) (fun _ _ _ h => h) (Or.inl ⟨by rfl, ?hy2⟩) (by assumption) ?rest2
      case hy2 => (intro w hSw; (try dsimp only at hSw); go_simp; try with_reducible rfl)
      try simp only [Act.put, lA, lB, lC, lD, lE, lF]
      refine wpAnyH_take (i := 2) (v := ?v3) rfl (by kernel_rfl) (by kernel_rfl) (by kernel_rfl) (fun _ _ _ h => h) (Or.inl ⟨by rfl, ?hy3⟩) (by assumption) ?rest3
      case hy3 => (intro w hSw; (try dsimp only at hSw); go_simp; try with_reducible rfl)
      try simp only [Act.put, lA, lB, lC, lD, lE, lF]
      refine wpAnyH_take (i := 3) (v := ?v4) rfl (by kernel_rfl) (by kernel_rfl) (by kernel_rfl) (fun _ _ _ h => h) (Or.inl ⟨by rfl, ?hy4⟩) (by assumption) ?rest4
      case hy4 => (intro w hSw; (try dsimp only at hSw); go_simp; try with_reducible rfl)
      try simp only [Act.put, lA, lB, lC, lD, lE, lF]
      refine wpAnyH_take (i := 4) (v := ?v5) rfl (by kernel_rfl) (by kernel_rfl) (by kernel_rfl) (fun _ _ _ h => h) (Or.inl ⟨by rfl, ?hy5⟩) (by assumption) ?rest5
      case hy5 => (intro w hSw; (try dsimp only at hSw); go_simp; try with_reducible rfl)
      try simp only [Act.put, lA, lB, lC, lD, lE, lF]
      refine wpAnyH_take (i := 8) (v := ?v6) rfl (by kernel_rfl) (by kernel_rfl) (by kernel_rfl) (fun _ _ _ h => h) (Or.inl ⟨by rfl, ?hy6⟩) (by assumption) ?rest6
      case hy6 => (intro w hSw; (try dsimp only at hSw); go_simp; try with_reducible rfl)
      try simp only [Act.put, lA, lB, lC, lD, lE, lF]
      refine wpAnyH_take (i := 9) (v := ?v7) rfl (by kernel_rfl) (by kernel_rfl) (by kernel_rfl) (fun _ _ _ h => h) (Or.inl ⟨by rfl, ?hy7⟩) (by assumption) ?rest7
      case hy7 => (intro w hSw; (try dsimp only at hSw); go_simp; try with_reducible rfl)
      try simp only [Act.put, lA, lB, lC, lD, lE, lF]
      refine wpAnyH_take (i := 10) (v := ?v8) rfl (by kernel_rfl) (by kernel_rfl) (by kernel_rfl) (fun _ _ _ h => h) (Or.inl ⟨by rfl, ?hy8⟩) (by assumption) ?rest8
      case hy8 => (intro w hSw; (try dsimp only at hSw); go_simp; try with_reducible rfl)
      try simp only [Act.put, lA, lB, lC, lD, lE, lF]
      refine wpAnyH_take (i := 11) (v := ?v9) rfl (by kernel_rfl) (by kernel_rfl) (by kernel_rfl) (fun _ _ _ h => h) (Or.inl ⟨by rfl, ?hy9⟩) (by assumption) ?rest9
      case hy9 => (intro w hSw; (try dsimp only at hSw); go_simp; try with_reducible rfl)
      try simp only [Act.put, lA, lB, lC, lD, lE, lF]
      refine wpAnyH_take (i := 12) (v := ?v10) rfl (by kernel_rfl) (by kernel_rfl) (by kernel_rfl) (fun _ _ _ h => h) (Or.inl ⟨by rfl, ?hy10⟩) (by assumption) ?rest10
      case hy10 => (intro w hSw; (try dsimp only at hSw); go_simp; try with_reducible rfl)
      try simp only [Act.put, lA, lB, lC, lD, lE, lF]
      refine wpAnyH_ready (rs := [5, 6]) (by kernel_rfl) (by simp) ?_
      refine ready_cons ({ dst := some 16, op := Op.call { callee := Callee.builtin Builtin.append, args := #[Operand.const (Value.slice none 0 0), Operand.tmp 15], argTypes := #[44, 44] }, type := 44, pos := "law.go:27", after := #[{ on := 4, ground := Ground.data }], guard := none }) rfl rfl (fun K hK => ?_) ?_
      · clear hHeld
        obtain ⟨v1, V1, e1, o1, g1⟩ := append_intsB (IOwns.nil V0 V0.heap.size) aR kR (lat rs v) HNR.out (HIR.out V0 HB0.out) (Nat.le_refl _) (by have := HLA.out; simp; omega)
        rw [List.nil_append] at o1
        have hb2 : Below V0.heap.size V0 V1 := below_grown (Below.refl _ _) (IOwns.nil V0 V0.heap.size) (Nat.le_refl _) (Nat.le_refl _) g1
        have HB1 := hide (HB0.out.trans (hb2.mono HB0.out.size))
        have HO1 : Hid (IOwns V1 wr.heap.size v1 (lat rs v)) := o1.base HB0.out.size
        rw [HLA.out] at e1
        refine oper_append (.const (.slice none 0 0)) (.tmp 15) 44 rfl 44 rfl (.slice none 0 0) (.slice aR la kR) v1 V1 (by rfl) (by rfl) ?_ ?_
        with_reducible exact e1
        clear e1 g1 o1 hb2
        clear s0
        have s0 := HS.out _ HB1.out
        refine hK.out _ _ (by first | with_reducible exact s0 | (dsimp only; with_reducible exact s0)) (fun hHeld => ?_)
        clear hK K
        try simp only [Act.put, lD, lE, lF]
        refine wpAnyH_ready (rs := [6]) (by kernel_rfl) (by simp) ?_
        refine ready_cons ({ dst := some 17, op := Op.buildSlice 44 1 #[(0, Operand.const (Value.int IntKind.i64 (-77)))], type := 44, pos := "law.go:27", after := #[], guard := none }) rfl rfl (fun K hK => ?_) ?_
        · clear hHeld
          go_simp
          obtain ⟨V2, hV⟩ : ∃ V, V = V1.alloc (.cells #[.int .i64 (-77)] 3) := ⟨_, rfl⟩
          obtain ⟨kl, hkl⟩ : ∃ k, V1.heap.size = k := ⟨_, rfl⟩
          have hb2 : Below V1.heap.size V1 V2 := by rw [hV]; go_grown
          have HL2 : Hid (V2.cell? ⟨kl, 0, none⟩ = some (.int .i64 (-77))) := by show _ = _; rw [hV, ← hkl]; go_cell
          rw [← hV, hkl]
          have HB2 := hide (HB1.out.trans (hb2.mono HB1.out.size))
          have HO2 := hide (HO1.out.later hb2)
          clear hV hb2 hkl
          clear s0
          have s0 := HS.out _ HB2.out
          refine hK.out _ _ (by first | with_reducible exact s0 | (dsimp only; with_reducible exact s0)) (fun hHeld => ?_)
          clear hK K
          try simp only [Act.put, lA, lB, lC, lD, lE, lF]
          refine wpAnyH_ready (rs := [7]) (by kernel_rfl) (by simp) ?_
          refine ready_cons ({ dst := some 18, op := Op.call { callee := Callee.builtin Builtin.append, args := #[Operand.tmp 16, Operand.tmp 17], argTypes := #[44, 44] }, type := 44, pos := "law.go:27", after := #[{ on := 5, ground := Ground.data }, { on := 6, ground := Ground.data }, { on := 5, ground := Ground.chain }], guard := none }) rfl rfl (fun K hK => ?_) ?_
          · clear hHeld
            obtain ⟨v2, V3, e2, o2, g2, _⟩ := append_intB HO2.out HL2.out HB2.out.size (by have := HLA.out; omega)
            obtain ⟨gv, cv, hv2, hcv⟩ := own_form o2 (by simp)
            rw [List.length_append, List.length_singleton, HLA.out] at hv2 hcv
            subst hv2
            have HB3 : Hid (Below wr.heap.size wr V3) := below_grown HB2.out HO2.out (Nat.le_refl _) HB2.out.size g2
            have HO3 := hide o2
            refine oper_append (.tmp 16) (.tmp 17) 44 rfl 44 rfl v1 (.slice (some ⟨kl, 0, none⟩) 1 1) (.slice (some ⟨gv, 0, none⟩) (la + 1) cv) V3 (by rfl) (by rfl) ?_ ?_
            with_reducible exact e2
            clear e2 g2 o2
            have z1 : la ≤ cv := by omega
            have z2 : (la : Int) ≤ cv := by omega
            have z3 : ¬ cv = 0 := by omega
            have z4 : ¬ (cv : Int) = 0 := by omega
            clear s0
            have s0 := HS.out _ HB3.out
            refine hK.out _ _ (by first | with_reducible exact s0 | (dsimp only; with_reducible exact s0)) (fun hHeld => ?_)
            clear hK K
            try simp only [Act.put, lD, lE, lF]
            refine wpAnyH_take (i := 13) (v := ?v11) rfl (by kernel_rfl) (by kernel_rfl) (by kernel_rfl) (fun _ _ _ h => h) (Or.inl ⟨by rfl, ?hy11⟩) (by assumption) ?rest11
            case hy11 => (intro w hSw; (try dsimp only at hSw); go_simp; try with_reducible rfl)
            try simp only [Act.put, lA, lB, lC, lD, lE, lF]
            refine wpAnyH_ready (rs := [14]) (by kernel_rfl) (by simp) ?_
            refine ready_cons ({ dst := some 25, op := Op.buildSlice 26 1 #[(0, Operand.tmp 24)], type := 26, pos := "law.go:27", after := #[{ on := 13, ground := Ground.data }], guard := none }) rfl rfl (fun K hK => ?_) ?_
            · clear hHeld
              go_simp
              obtain ⟨p1, c1, V5, e5, t5, b5⟩ := HTR.out.step HB3.out HBW.out hvr HLA.out HO3.out (by omega)
              obtain ⟨V4, hV⟩ : ∃ V, V = V3.alloc (.cells #[.slice (some ⟨gv, 0, none⟩) la cv] 44) := ⟨_, rfl⟩
              have hb2 : Below V3.heap.size V3 V4 := by rw [hV]; go_grown
              have HB4 := hide (HB3.out.trans (hb2.mono HB3.out.size))
              have HT5 := hide t5
              have HB5 := hide b5
              obtain ⟨kb, hkb⟩ : ∃ k, V3.heap.size = k := ⟨_, rfl⟩
              rw [← hV, hkb] at e5
              rw [← hV, hkb]
              clear hV hb2 hkb t5 b5
              clear s0
              have s0 := HS.out _ HB4.out
              refine hK.out _ _ (by first | with_reducible exact s0 | (dsimp only; with_reducible exact s0)) (fun hHeld => ?_)
              clear hK K
              try simp only [Act.put, lA, lB, lC, lD, lE, lF]
              refine wpAnyH_ready (rs := [15]) (by kernel_rfl) (by simp) ?_
              refine ready_cons ({ dst := some 26, op := Op.call { callee := Callee.builtin Builtin.append, args := #[Operand.tmp 11, Operand.tmp 25], argTypes := #[26, 26] }, type := 26, pos := "law.go:27", after := #[{ on := 0, ground := Ground.data }, { on := 14, ground := Ground.data }, { on := 7, ground := Ground.chain }], guard := none }) rfl rfl (fun K hK => ?_) ?_
              · clear hHeld
                refine oper_append (.tmp 11) (.tmp 25) 26 rfl 26 rfl (.slice p3 v c3) (.slice (some ⟨kb, 0, none⟩) 1 1) (.slice p1 (v + 1) c1) V5 (by rfl) (by rfl) ?_ ?_
                with_reducible exact e5
                clear e5
                clear s0
                have s0 := HS2.out _ HB5.out
                refine hK.out _ _ (by first | with_reducible exact s0 | (dsimp only; with_reducible exact s0)) (fun hHeld => ?_)
                clear hK K
                try simp only [Act.put, lD, lE, lF]
                refine wpAnyH_take (i := 16) (v := ?v12) rfl (by kernel_rfl) (by kernel_rfl) (by kernel_rfl) (fun _ _ _ h => h) (Or.inl ⟨by rfl, ?hy12⟩) (by assumption) ?rest12
                case hy12 => (intro w hSw; (try dsimp only at hSw); go_simp; try with_reducible rfl)
                try simp only [Act.put, lA, lB, lC, lD, lE, lF]
                refine wpAnyH_done (by kernel_rfl) ?_ _
                clear hHeld
                go_wp2
                go_roundw
                case rel => exact ⟨v + 1, p1, c1, _, by omega, by go_num, rfl, HBWr.out.trans HB5.out, HT5.out⟩
                case measure => simp [intOf]; omega
              exact AllReadyH.nil
            exact AllReadyH.nil
          exact AllReadyH.nil
        exact AllReadyH.nil
      refine ready_cons ({ dst := some 17, op := Op.buildSlice 44 1 #[(0, Operand.const (Value.int IntKind.i64 (-77)))], type := 44, pos := "law.go:27", after := #[], guard := none }) rfl rfl (fun K hK => ?_) ?_
      · clear hHeld
        go_simp
        obtain ⟨V1, hV⟩ : ∃ V, V = V0.alloc (.cells #[.int .i64 (-77)] 3) := ⟨_, rfl⟩
        obtain ⟨kl, hkl⟩ : ∃ k, V0.heap.size = k := ⟨_, rfl⟩
        have hb2 : Below V0.heap.size V0 V1 := by rw [hV]; go_grown
        have HL1 : Hid (V1.cell? ⟨kl, 0, none⟩ = some (.int .i64 (-77))) := by show _ = _; rw [hV, ← hkl]; go_cell
        rw [← hV, hkl]
        have HB1 := hide (HB0.out.trans (hb2.mono HB0.out.size))
        clear hV hb2 hkl
        clear s0
        have s0 := HS.out _ HB1.out
        refine hK.out _ _ (by first | with_reducible exact s0 | (dsimp only; with_reducible exact s0)) (fun hHeld => ?_)
        clear hK K
        try simp only [Act.put, lA, lB, lC, lD, lE, lF]
        refine wpAnyH_ready (rs := [5]) (by kernel_rfl) (by simp) ?_
        refine ready_cons ({ dst := some 16, op := Op.call { callee := Callee.builtin Builtin.append, args := #[Operand.const (Value.slice none 0 0), Operand.tmp 15], argTypes := #[44, 44] }, type := 44, pos := "law.go:27", after := #[{ on := 4, ground := Ground.data }], guard := none }) rfl rfl (fun K hK => ?_) ?_
        · clear hHeld
          obtain ⟨v1, V2, e1, o1, g1⟩ := append_intsB (IOwns.nil V1 V1.heap.size) aR kR (lat rs v) HNR.out (HIR.out V1 HB1.out) (Nat.le_refl _) (by have := HLA.out; simp; omega)
          rw [List.nil_append] at o1
          have hb2 : Below V1.heap.size V1 V2 := below_grown (Below.refl _ _) (IOwns.nil V1 V1.heap.size) (Nat.le_refl _) (Nat.le_refl _) g1
          have HB2 := hide (HB1.out.trans (hb2.mono HB1.out.size))
          have HO2 : Hid (IOwns V2 wr.heap.size v1 (lat rs v)) := o1.base HB1.out.size
          have HL2 := hide (later hb2 HL1.out)
          rw [HLA.out] at e1
          refine oper_append (.const (.slice none 0 0)) (.tmp 15) 44 rfl 44 rfl (.slice none 0 0) (.slice aR la kR) v1 V2 (by rfl) (by rfl) ?_ ?_
          with_reducible exact e1
          clear e1 g1 o1 hb2
          clear s0
          have s0 := HS.out _ HB2.out
          refine hK.out _ _ (by first | with_reducible exact s0 | (dsimp only; with_reducible exact s0)) (fun hHeld => ?_)
          clear hK K
          try simp only [Act.put, lD, lE, lF]
          refine wpAnyH_ready (rs := [7]) (by kernel_rfl) (by simp) ?_
          refine ready_cons ({ dst := some 18, op := Op.call { callee := Callee.builtin Builtin.append, args := #[Operand.tmp 16, Operand.tmp 17], argTypes := #[44, 44] }, type := 44, pos := "law.go:27", after := #[{ on := 5, ground := Ground.data }, { on := 6, ground := Ground.data }, { on := 5, ground := Ground.chain }], guard := none }) rfl rfl (fun K hK => ?_) ?_
          · clear hHeld
            obtain ⟨v2, V3, e2, o2, g2, _⟩ := append_intB HO2.out HL2.out HB2.out.size (by have := HLA.out; omega)
            obtain ⟨gv, cv, hv2, hcv⟩ := own_form o2 (by simp)
            rw [List.length_append, List.length_singleton, HLA.out] at hv2 hcv
            subst hv2
            have HB3 : Hid (Below wr.heap.size wr V3) := below_grown HB2.out HO2.out (Nat.le_refl _) HB2.out.size g2
            have HO3 := hide o2
            refine oper_append (.tmp 16) (.tmp 17) 44 rfl 44 rfl v1 (.slice (some ⟨kl, 0, none⟩) 1 1) (.slice (some ⟨gv, 0, none⟩) (la + 1) cv) V3 (by rfl) (by rfl) ?_ ?_
            with_reducible exact e2
            clear e2 g2 o2
            have z1 : la ≤ cv := by omega
            have z2 : (la : Int) ≤ cv := by omega
            have z3 : ¬ cv = 0 := by omega
            have z4 : ¬ (cv : Int) = 0 := by omega
            clear s0
            have s0 := HS.out _ HB3.out
            refine hK.out _ _ (by first | with_reducible exact s0 | (dsimp only; with_reducible exact s0)) (fun hHeld => ?_)
            clear hK K
            try simp only [Act.put, lD, lE, lF]
            refine wpAnyH_take (i := 13) (v := ?v13) rfl (by kernel_rfl) (by kernel_rfl) (by kernel_rfl) (fun _ _ _ h => h) (Or.inl ⟨by rfl, ?hy13⟩) (by assumption) ?rest13
            case hy13 => (intro w hSw; (try dsimp only at hSw); go_simp; try with_reducible rfl)
            try simp only [Act.put, lA, lB, lC, lD, lE, lF]
            refine wpAnyH_ready (rs := [14]) (by kernel_rfl) (by simp) ?_
            refine ready_cons ({ dst := some 25, op := Op.buildSlice 26 1 #[(0, Operand.tmp 24)], type := 26, pos := "law.go:27", after := #[{ on := 13, ground := Ground.data }], guard := none }) rfl rfl (fun K hK => ?_) ?_
            · clear hHeld
              go_simp
              obtain ⟨p1, c1, V5, e5, t5, b5⟩ := HTR.out.step HB3.out HBW.out hvr HLA.out HO3.out (by omega)
              obtain ⟨V4, hV⟩ : ∃ V, V = V3.alloc (.cells #[.slice (some ⟨gv, 0, none⟩) la cv] 44) := ⟨_, rfl⟩
              have hb2 : Below V3.heap.size V3 V4 := by rw [hV]; go_grown
              have HB4 := hide (HB3.out.trans (hb2.mono HB3.out.size))
              have HT5 := hide t5
              have HB5 := hide b5
              obtain ⟨kb, hkb⟩ : ∃ k, V3.heap.size = k := ⟨_, rfl⟩
              rw [← hV, hkb] at e5
              rw [← hV, hkb]
              clear hV hb2 hkb t5 b5
              clear s0
              have s0 := HS.out _ HB4.out
              refine hK.out _ _ (by first | with_reducible exact s0 | (dsimp only; with_reducible exact s0)) (fun hHeld => ?_)
              clear hK K
              try simp only [Act.put, lA, lB, lC, lD, lE, lF]
              refine wpAnyH_ready (rs := [15]) (by kernel_rfl) (by simp) ?_
              refine ready_cons ({ dst := some 26, op := Op.call { callee := Callee.builtin Builtin.append, args := #[Operand.tmp 11, Operand.tmp 25], argTypes := #[26, 26] }, type := 26, pos := "law.go:27", after := #[{ on := 0, ground := Ground.data }, { on := 14, ground := Ground.data }, { on := 7, ground := Ground.chain }], guard := none }) rfl rfl (fun K hK => ?_) ?_
              · clear hHeld
                refine oper_append (.tmp 11) (.tmp 25) 26 rfl 26 rfl (.slice p3 v c3) (.slice (some ⟨kb, 0, none⟩) 1 1) (.slice p1 (v + 1) c1) V5 (by rfl) (by rfl) ?_ ?_
                with_reducible exact e5
                clear e5
                clear s0
                have s0 := HS2.out _ HB5.out
                refine hK.out _ _ (by first | with_reducible exact s0 | (dsimp only; with_reducible exact s0)) (fun hHeld => ?_)
                clear hK K
                try simp only [Act.put, lD, lE, lF]
                refine wpAnyH_take (i := 16) (v := ?v14) rfl (by kernel_rfl) (by kernel_rfl) (by kernel_rfl) (fun _ _ _ h => h) (Or.inl ⟨by rfl, ?hy14⟩) (by assumption) ?rest14
                case hy14 => (intro w hSw; (try dsimp only at hSw); go_simp; try with_reducible rfl)
                try simp only [Act.put, lA, lB, lC, lD, lE, lF]
                refine wpAnyH_done (by kernel_rfl) ?_ _
                clear hHeld
                go_wp2
                go_roundw
                case rel => exact ⟨v + 1, p1, c1, _, by omega, by go_num, rfl, HBWr.out.trans HB5.out, HT5.out⟩
                case measure => simp [intOf]; omega
              exact AllReadyH.nil
            exact AllReadyH.nil
          exact AllReadyH.nil
        exact AllReadyH.nil
      exact AllReadyH.nil
    · have hve : v = rs.length := by omega
      have e1 : ¬ (v : Int) < rs.length := by omega
      rw [hve] at HTR ⊢
      clear hve hv hvr e1
      have e1 : ¬ (rs.length : Int) < rs.length := by omega
      go_upto_region 6 with fail
      obtain ⟨g, c1, rv', D, ea, htw, bD⟩ := HTR.out.top HBWr.out.size (by omega)
      have HTW := hide htw
      have HBD := hide (HBWr.out.trans bD)
      have z1 : rs.length ≤ c1 := by have := htw.cap; omega
      have z2 : (rs.length : Int) ≤ c1 := by omega
      have z3 : ¬ c1 = 0 := by have := htw.cap; omega
      clear htw bD HTR HBWr
      go_wp2_with (at_builtin; refine wpList_run_append rfl (.tmp 27) (.tmp 29) 26 rfl 26 rfl _ _ _ D rfl rfl ea ?_)
      go_ret
      exact ⟨g, c1, rfl, ⟨rv', HTW.out⟩, HBD.out⟩
set_option maxRecDepth 100000 in
set_option maxHeartbeats 16000000 in
theorem kept23 (B g c : Nat) (rv : Nat → Value) (q : Option Addr) (rs : List (List Int)) (cq : Nat) (w : World) (ht : TwR w B g c rs rv) (hr : RHas w q rs) (hn : (rs.length + 1) * 24 ≤ 140737488355328) (hl : ∀ v, v < rs.length → ((lat rs v).length + 1) * 8 ≤ 140737488355328) : Calls Try.prog 23 #[.slice (some ⟨g, 0, none⟩) rs.length c, .slice q rs.length cq] w fun e w' => e = .returned (.bool true) ∧ Below w.heap.size w w' := by
  have LS := hide (lists29 (some ⟨g, 0, none⟩) q rs rs c cq w (by unfold maxLen; omega) (ht.fb.has fun v hv => by have := hl v hv; unfold maxLen; omega) hr)
  rw [decide_eq_true rfl] at LS
  have HT := hide ht
  have HR := hide hr
  have HLL := hide hl
  have hcap := ht.cap
  clear ht hr hl
  go_enter Try.func23, Try.ntmps23
  go_wp2_with fail
  refine LS.out.mono ?_
  rintro r w1 ⟨rfl, hb1⟩
  have HB1 := hide hb1
  have HT1 := hide (HT.out.later hb1)
  have HR1 := hide (HR.out.later hb1)
  obtain ⟨gm, c0, c1⟩ := HT1.out.top
  have d1 : IntKind.i64.wrap ((rs.length : Int) + 1) = rs.length + 1 := by rw [IntKind.wrap_i64]; omega
  have z1 : (rs.length : Int) + 1 ≤ c := by omega
  have z3 : ¬ c = 0 := by omega
  have z4 : (rs.length : Int) < (rs.length : Int) + 1 := by omega
  clear hb1 LS HT HR
  go_wp2_with fail
  clear c0 c1
  go_loopw [5] (fun t5 wr => ∃ v : Nat, v ≤ rs.length ∧ t5 = .int .i64 v ∧ Hid (Below w1.heap.size w1 wr)) (fun t5 _ => rs.length - (intOf t5).toNat)
  case atStart => exact ⟨0, by omega, rfl, Below.refl _ _⟩
  case round =>
    obtain ⟨v, hv, rfl, HBr⟩ := hrel
    by_cases hlt : v < rs.length
    · have e1 : (v : Int) < rs.length := by omega
      have ht := HT1.out.later HBr.out
      obtain ⟨bR, oR, aR, kR, rfl, cR, _, _, _, _⟩ := (HR1.out.later HBr.out).at_ hlt
      obtain ⟨gv, cv, a1, a2⟩ := ht.mks v hlt
      have c0 : wr.cell? ⟨g, v, none⟩ = some (rv v) := by
        rw [World.ownsRow.cellAt ht.fb.lst v (by omega)]
        simp [hlt]
      rw [a1] at c0
      have hlb := HLL.out v hlt
      have c2 : wr.cell? ⟨gv, (lat rs v).length, none⟩ = some (.int .i64 (-77)) := by
        have hll : (lat rs v ++ [(-77 : Int)]).length = (lat rs v).length + 1 := by simp
        rw [← hll] at a2
        have := a2.at_ (j := (lat rs v).length) (by simp)
        rw [this]
        simp [iat]
      have hcv : (lat rs v).length + 1 ≤ cv := by
        obtain ⟨_, ⟨h1, _⟩ | ⟨_, c4, _, h1, _, _, h4, _⟩⟩ := a2
        · cases h1
        · injection h1 with _ _ e3
          rw [List.length_append, List.length_singleton] at h4
          omega
      obtain ⟨la, hla⟩ : ∃ l, (lat rs v).length = l := ⟨_, rfl⟩
      rw [hla] at c0 c2 hcv cR hlb
      have d2 : IntKind.i64.wrap ((la : Int) + 1) = la + 1 := by rw [IntKind.wrap_i64]; omega
      have y1 : (la : Int) + 1 ≤ cv := by omega
      have y3 : ¬ cv = 0 := by omega
      have y4 : (la : Int) < (la : Int) + 1 := by omega
      have y5 : (0 : Int) ≤ (la : Int) + 1 := by omega
      have C0 := cell_regrown c0
      have C2 := cell_regrown c2
      have CR := cell_regrown cR
      clear ht a1 a2 hla
      go_upto_region 6 with fail
      refine wp_region_quiet_below (by kernel_rfl) (by kernel_rfl) ?_
      repeat (go_big_quiet_step (fail))
      refine wpQuiet_nil ?_
      intro v1 hw'
      have hbv1 : Below wr.heap.size wr v1 := by
        obtain ⟨⟨dq, osq⟩, hw''⟩ := hw'
        rw [hw'']
        exact below_regrown wr dq osq
      have HBv1 := hide (below_step HBr.out hbv1)
      clear hw' hbv1 C0 C2 CR c0 c2 cR
      go_wp2
      go_roundw
      case rel => exact ⟨v + 1, by omega, by go_num, HBv1.out⟩
      case measure => simp [intOf]; omega
    · have e1 : ¬ (v : Int) < rs.length := by omega
      go_wp2
      go_ret
      exact ⟨rfl, below_step HB1.out HBr.out⟩
end Go.Proofs.Ytcgdmonejogbaaa
