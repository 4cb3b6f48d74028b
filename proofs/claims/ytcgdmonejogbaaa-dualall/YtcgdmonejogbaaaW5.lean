/- slices.Insert of one number in a list of one's own. -/
import Derived.Test.YtcgdmonejogbaaaW3
import Derived.Shelf.Spec.SlicesInsertGrow
/- dual.copied, in every world. -/
namespace Go.Proofs.Ytcgdmonejogbaaa
open Go.RowKit Go.Sort
open Go
set_option maxRecDepth 100000 in
set_option maxHeartbeats 16000000 in
theorem copied57 (q : Option Addr) (rs : List (List Int)) (cq : Nat) (w : World) (hr : RHas w q rs) (hn : rs.length ≤ 90000) (hl : ∀ u, u < rs.length → (lat rs u).length ≤ 90000) : Calls Try.prog 57 #[.slice q rs.length cq] w fun e w' => ∃ g rv, e = .returned (.slice (some ⟨g, 0, none⟩) rs.length rs.length) ∧ Rows w' w.heap.size g rs.length rv (fun v => lat rs v) ∧ Below w.heap.size w w' := by
  obtain ⟨i0, hi0, hz0, hz1, hz2⟩ := info_parts info41
  have HR := hide hr
  have HZ := hide hl
  clear hr hl
  go_enter Try.func57, Try.ntmps57
  go_wp2_with (refine wpList_make_full _ rfl (.tmp 7) (.tmp 7) 26 rfl w.heap.size 44 i0 (.slice none 0 0) 1 Try.underlying26 hi0 hz0 hz1 .i64 .i64 _ _ rs.length rfl rfl rfl rfl ?c1 ?c2 ?c3 ?_)
  case c1 => rw [hz2]; omega
  case c2 => unfold maxLen; omega
  case c3 => exact Nat.le_refl _
  intro w2 hown hgrow
  have HB2 := hide (below_made hgrow)
  have hr2 : Rows w2 w.heap.size w.heap.size rs.length (fun _ => .slice none 0 0) (fun v => if v < 0 then lat rs v else []) := (rows_made [] hown).congr (fun v _ => by simp [outL])
  obtain ⟨g, hg⟩ : ∃ g, w.heap.size = g := ⟨_, rfl⟩
  have HR2 : Hid (Rows w2 w.heap.size g rs.length (fun _ => .slice none 0 0) (fun v => if v < 0 then lat rs v else [])) := by show Rows _ _ _ _ _ _; rw [hg] at hr2 ⊢; exact hr2
  try rw [hg]
  clear hown hgrow hg hr2 hi0 hz0 hz1 hz2 i0
  go_wp2_with fail
  go_loopw [11] (fun t11 wr => ∃ (v : Nat) (rv : Nat → Value), v ≤ rs.length ∧ t11 = .int .i64 v ∧ Hid (Below w.heap.size w wr) ∧ Hid (Rows wr w.heap.size g rs.length rv (fun u => if u < v then lat rs u else []))) (fun t11 _ => rs.length - (intOf t11).toNat)
  case atStart => exact ⟨0, _, by omega, rfl, HB2.out, HR2.out⟩
  case round =>
    obtain ⟨v, rv, hv, rfl, HBr, HRr⟩ := hrel
    clear HB2 HR2
    by_cases hlt : v < rs.length
    · obtain ⟨b1, o1, a1, k1, rfl, c0W, m1, z3⟩ := HR.out.at_ hlt
      have c0 := later HBr.out c0W
      have e1 : (v : Int) < rs.length := by omega
      have hl9 := HZ.out v hlt
      have CL := hide (clone61 a1 (lat rs v) k1 wr (m1.later HBr.out) z3.2.2 (by omega))
      have HSTEP : Hid (∀ (V : World) (rv' : Nat → Value), Rows V w.heap.size g rs.length rv' (upd (fun u => if u < v then lat rs u else []) v (lat rs v)) → Rows V w.heap.size g rs.length rv' (fun u => if u < v + 1 then lat rs u else [])) := fun V rv' hR => hR.congr (fun u _ => by
        by_cases hu : u = v
        · subst hu; rw [upd_same, if_pos (by omega)]
        · rw [upd_other _ _ hu]
          by_cases h : u < v
          · rw [if_pos h, if_pos (by omega)]
          · rw [if_neg h, if_neg (by omega)])
      clear m1 z3 c0W
      go_wp2_with fail
      refine CL.out.mono ?_
      rintro e V2 ⟨v1, rfl, o7, hb7⟩
      obtain ⟨p7, c7, h7, _⟩ := o7.form
      have HLAY := hide (HSTEP.out _ _ (HRr.out.lay hlt hb7 HBr.out.size o7))
      have HB7 := hide (below_step HBr.out hb7)
      have HGE : Hid (w.heap.size ≤ g) := HRr.out.size.1
      obtain ⟨d0, f0⟩ := (HRr.out.later hb7).cell hlt
      subst h7
      obtain ⟨V3, hV3⟩ : ∃ V, V = V2.setCell ⟨g, v, none⟩ (.slice p7 (lat rs v).length c7) := ⟨_, rfl⟩
      have HB8 : Hid (Below w.heap.size w V3) := by show Below _ _ _; rw [hV3]; exact HB7.out.setCell (p := ⟨g, v, none⟩) HGE.out _
      rw [← hV3] at HLAY
      clear CL hb7 o7 c0 HRr HBr
      go_wp2
      rw [← hV3]
      clear hV3
      go_roundw
      case rel => exact ⟨v + 1, _, by omega, by go_num, HB8.out, HLAY.out⟩
      case measure => simp [intOf]; omega
    · have hve : v = rs.length := by omega
      have e1 : ¬ (v : Int) < rs.length := by omega
      have HE : Hid (Rows wr w.heap.size g rs.length rv (fun v => lat rs v)) := HRr.out.congr fun u hu => by rw [if_pos (by omega)]
      clear hve
      go_wp2
      go_ret
      exact ⟨g, rfl, ⟨rv, HE.out⟩, HBr.out⟩
end Go.Proofs.Ytcgdmonejogbaaa
namespace Go.Proofs
open Go.Shelf
def Try.laysIns_ren : Go.Shelf.Ren := ⟨fun | 21 => 96 | 27 => 104 | 28 => 105 | 35 => 108 | 39 => 109 | n => n, fun | 22 => 44 | 3 => 3 | 4 => 4 | 0 => 0 | n => n, fun | n => n⟩
theorem Try.laysIns : Go.Proofs.Lays2.n21 Try.prog Try.laysIns_ren := {
  mixed := by kernel_rfl
  f21 := Try.func96.trans (congrArg some (by kernel_rfl))
  f27 := Try.func104.trans (congrArg some (by kernel_rfl))
  f28 := Try.func105.trans (congrArg some (by kernel_rfl))
  f35 := Try.func108.trans (congrArg some (by kernel_rfl))
  f39 := Try.func109.trans (congrArg some (by kernel_rfl))
  t0 := Try.underlying0
  a0 := Try.isAgg0
  z0 := Try.sizeOf0
  v0 := Try.zeroValue0
  t3 := Try.underlying3
  a3 := Try.isAgg3
  z3 := Try.sizeOf3
  v3 := Try.zeroValue3
  t4 := Try.underlying4
  a4 := Try.isAgg4
  z4 := Try.sizeOf4
  v4 := Try.zeroValue4
  t22 := Try.underlying44
  a22 := Try.isAgg44
  z22 := Try.sizeOf44
  v22 := Try.zeroValue44
  i3 := Go.Proofs.Ytcgdmonejogbaaa.info3 }
end Go.Proofs
namespace Go.Proofs.Ytcgdmonejogbaaa
open Go.RowKit Go.Sort
open Go
/-- Values laid one behind the other. -/
def setL (xs : List Value) (o : Nat) : List Value → List Value
  | [] => xs
  | v :: r => setL (xs.set o v) (o + 1) r
theorem setL_length : ∀ (vs xs : List Value) (o : Nat), (setL xs o vs).length = xs.length
  | [], _, _ => rfl
  | v :: r, xs, o => by unfold setL; rw [setL_length r]; simp
theorem setL_at : ∀ (vs xs : List Value) (o j : Nat), j < xs.length → (setL xs o vs)[j]? = if o ≤ j ∧ j < o + vs.length then vs[j - o]? else xs[j]?
  | [], xs, o, j, _ => by rw [if_neg (by rw [List.length_nil]; omega)]; rfl
  | v :: r, xs, o, j, hj => by
    unfold setL
    rw [setL_at r (xs.set o v) (o + 1) j (by simpa using hj)]
    by_cases h1 : o + 1 ≤ j ∧ j < o + 1 + r.length
    · rw [if_pos h1, if_pos (by simp; omega), show j - o = (j - (o + 1)) + 1 by omega, List.getElem?_cons_succ]
    · rw [if_neg h1]
      by_cases h2 : j = o
      · subst h2
        rw [if_pos (by simp), Nat.sub_self, List.getElem?_cons_zero, List.getElem?_set_self hj]
      · rw [if_neg (by simp; omega), List.getElem?_set_ne (by omega)]
theorem own_setCells {base : Nat} {e : TypeId} {g n cap : Nat} : ∀ (vs : List Value) {w : World} {xs : List Value} (o : Nat), w.ownsRow base e 1 (.slice (some ⟨g, 0, none⟩) n cap) n xs → (w.setCells g o vs).ownsRow base e 1 (.slice (some ⟨g, 0, none⟩) n cap) n (setL xs o vs) ∧ w.grownBy (w.setCells g o vs) (some g)
  | [], w, xs, o, h => ⟨h, ⟨rfl, rfl, rfl, Nat.le_refl _, fun _ _ _ => rfl⟩⟩
  | v :: r, w, xs, o, h => by
    obtain ⟨h1, h2⟩ := World.ownsRow.stored h o v
    obtain ⟨k1, k2⟩ := own_setCells r (o + 1) h1
    exact ⟨k1, ⟨k2.os.trans h2.os, k2.tape.trans h2.tape, k2.output.trans h2.output, Nat.le_trans h2.size k2.size, fun k hk hn => (k2.block k (Nat.lt_of_lt_of_le hk h2.size) hn).trans (h2.block k hk hn)⟩⟩
theorem own_drew {w : World} {base : Nat} {e : TypeId} {v : Value} {n : Nat} {xs : List Value} (h : w.ownsRow base e 1 v n xs) : w.drew.ownsRow base e 1 v n xs ∧ w.grownBy w.drew none := ⟨h, ⟨rfl, rfl, rfl, Nat.le_refl _, fun _ _ _ => rfl⟩⟩
theorem grown_trans {w w' w'' : World} {row : Option Nat} (h : w.grownBy w' row) (k : w'.grownBy w'' row) : w.grownBy w'' row := ⟨k.os.trans h.os, k.tape.trans h.tape, k.output.trans h.output, Nat.le_trans h.size k.size, fun i hi hn => (k.block i (Nat.lt_of_lt_of_le hi h.size) hn).trans (h.block i hi hn)⟩
theorem grown_none {w w' : World} {row : Option Nat} (h : w.grownBy w' none) : w.grownBy w' row := ⟨h.os, h.tape, h.output, h.size, fun i hi _ => h.block i hi (by simp)⟩
/-- A row with one spare cell more. -/
theorem own_more {w : World} {base : Nat} {e : TypeId} {g n cap : Nat} {xs : List Value} (h : w.ownsRow base e 1 (.slice (some ⟨g, 0, none⟩) n cap) n xs) (hc : n < cap) : ∃ s, w.ownsRow base e 1 (.slice (some ⟨g, 0, none⟩) (n + 1) cap) (n + 1) (xs ++ [s]) := by
  obtain ⟨h1, ⟨h2, _⟩ | ⟨g', cap', cur, hv, hb, hg, hnc, hcm, hcs, htake⟩⟩ := h
  · cases h2
  injection hv with e1 e2 e3
  injection e1 with e1
  injection e1 with e1
  subst e1 e3
  rw [Nat.mul_one] at hcs htake h1
  refine ⟨cur.toList[n]'(by simp; omega), by simp [h1], Or.inr ⟨g, cap, cur, rfl, hb, hg, by omega, hcm, by omega, ?_⟩⟩
  rw [Nat.mul_one, List.take_add_one, htake, List.getElem?_eq_getElem (by simp; omega)]
  rfl
def insL (l : List Int) (i : Nat) (x : Int) : List Int := l.take i ++ x :: l.drop i
theorem insL_length (l : List Int) {i : Nat} (x : Int) (hi : i ≤ l.length) : (insL l i x).length = l.length + 1 := by
  unfold insL
  simp
  omega
theorem icells_ins (l : List Int) (i : Nat) (x : Int) : icells (insL l i x) = (icells l).take i ++ .int .i64 x :: (icells l).drop i := by
  unfold insL icells
  simp
theorem setL_ins {xs ys : List Value} {i : Nat} {v : Value} (hl : ys.length = xs.length + 1) (hi : i ≤ xs.length) (hp : ∀ j, j < i → ys[j]? = xs[j]?) : setL (setL ys (i + 1) (xs.drop i)) i [v] = xs.take i ++ v :: xs.drop i ∧ setL (setL ys i [v]) (i + 1) (xs.drop i) = xs.take i ++ v :: xs.drop i := by
  have key : ∀ zs : List Value, zs.length = ys.length → (∀ j, j < ys.length → zs[j]? = if j = i then some v else if j < i then xs[j]? else xs[j - 1]?) → zs = xs.take i ++ v :: xs.drop i := fun zs hz h => by
    apply List.ext_getElem?
    intro j
    by_cases hj : j < ys.length
    · rw [h j hj, List.getElem?_append]
      have hti : (xs.take i).length = i := by simp; omega
      rw [hti]
      by_cases h1 : j = i
      · subst h1; rw [if_pos rfl, if_neg (by omega), Nat.sub_self]; rfl
      · rw [if_neg h1]
        by_cases h2 : j < i
        · rw [if_pos h2, if_pos h2, List.getElem?_take, if_pos h2]
        · rw [if_neg h2, if_neg h2, show j - i = (j - i - 1) + 1 by omega, List.getElem?_cons_succ, List.getElem?_drop]
          congr 1
          omega
    · rw [List.getElem?_eq_none (by omega), List.getElem?_eq_none (by simp; omega)]
  have hdl : (xs.drop i).length = xs.length - i := List.length_drop
  constructor
  · refine key _ (by rw [setL_length, setL_length]) fun j hj => ?_
    rw [setL_at _ _ _ _ (by rw [setL_length]; exact hj), setL_at _ _ _ _ hj]
    by_cases h1 : j = i
    · subst h1; rw [if_pos (by simp), if_pos rfl, Nat.sub_self]; rfl
    · rw [if_neg (by simp; omega), if_neg h1]
      by_cases h2 : j < i
      · rw [if_neg (by omega), if_pos h2]; exact hp j h2
      · rw [if_pos (by omega), if_neg h2, List.getElem?_drop]
        congr 1
        omega
  · refine key _ (by rw [setL_length, setL_length]) fun j hj => ?_
    rw [setL_at _ _ _ _ (by rw [setL_length]; exact hj), setL_at _ _ _ _ hj]
    by_cases h1 : j = i
    · subst h1; rw [if_neg (by omega), if_pos (by simp), if_pos rfl, Nat.sub_self]; rfl
    · rw [if_neg h1]
      by_cases h2 : j < i
      · rw [if_neg (by omega), if_neg (by simp; omega), if_pos h2]; exact hp j h2
      · rw [if_pos (by omega), if_neg h2, List.getElem?_drop]
        congr 1
        omega
theorem icells_one (l : List Int) : ∀ v ∈ icells l, v.oneCell' = true := fun v hv => by
  obtain ⟨x, _, e⟩ := List.mem_map.1 hv
  rw [← e]
  rfl
theorem zero_size (n : Nat) : (Builtin.zeroCells (Value.int .i64 0).cells n).size = n := by
  unfold Builtin.zeroCells
  simp [Value.cells]
theorem grown_alloc2 (w : World) (o : Obj) (row : Option Nat) : w.grownBy (w.drew.alloc o) row := grown_trans (w' := w.drew) ⟨rfl, rfl, rfl, Nat.le_refl _, fun _ _ _ => rfl⟩ (World.grownBy_alloc w.drew o row)
theorem setCells_drew (g o : Nat) (vs : List Value) (w : World) : (w.setCells g o vs).drew = w.drew.setCells g o vs := drew_setCells g vs o w
set_option maxRecDepth 100000 in
set_option maxHeartbeats 8000000 in
/-- slices.Insert: the list with x at place i, in the list's own memory or in a new one. -/
theorem insert96 (v : Value) (l : List Int) (i : Nat) (x : Int) (B vb : Nat) (w : World) (o : IOwns w B v l) (hi : i ≤ l.length) (hl : l.length ≤ 90000) (hB : B ≤ w.heap.size) (hvb : w.heap[vb]? = some (.cells #[.int .i64 x] 3)) (hne : v.ownBlock ≠ some vb) : Calls Try.prog 96 #[v, .int .i64 i, .slice (some ⟨vb, 0, none⟩) 1 1] w fun e w' => ∃ v', e = .returned v' ∧ IOwns w' B v' (insL l i x) ∧ w.grownBy w' v.ownBlock ∧ (v'.ownBlock = v.ownBlock ∨ v'.ownBlock = some w.heap.size) := by
  have hcl : (icells l).length = l.length := by simp [icells]
  have hlen := insL_length l x hi
  have hvs : ∀ j u, [Value.int .i64 x][j]? = some u → w.cell? ⟨vb, 0 + j, none⟩ = some u := fun j u hj => by
    cases j with
    | zero => simp at hj; subst hj; simp [World.cell?, hvb]
    | succ j => simp at hj
  obtain ⟨o1, ⟨rfl, o2⟩ | ⟨g, cap, cur, rfl, o3, o4, o5, o6, o7, o8⟩⟩ := (show w.ownsRow B 3 1 v l.length (icells l) from o)
  · -- nil
    have hi0 : i = 0 := by omega
    subst hi0
    have hl0 : l = [] := List.length_eq_zero_iff.1 o2
    subst hl0
    refine (Any2.slices_Insert_int_end_grow Try.laysIns none 0 0 vb 0 1 1 [] [.int .i64 x] w (by omega) (by omega) (by omega) (by omega) rfl rfl (fun _ => rfl) (fun a h => by cases h) hvs (by simp [Value.oneCell'])).mono ?_
    rintro e w' ⟨rfl, rfl⟩
    have hge : 1 ≤ grownCap w 1 0 3 := grownCap_ge w 1 0 3
    have hle := grownCap_le_maxLen w (0 + 1) 0 3 (by unfold maxLen; omega)
    refine ⟨_, rfl, ⟨by simp [insL, icells], Or.inr ⟨w.heap.size, _, _, rfl, hB, heap_alloc_new w.drew _, hge, hle, ?_, ?_⟩⟩, grown_alloc2 w _ _, Or.inr rfl⟩
    · rw [Nat.mul_one]
      simp [zero_size]
      show 1 + (grownCap w 1 0 3 - 1) = grownCap w 1 0 3
      omega
    · simp [insL, icells]
  · rw [Nat.mul_one] at o7 o8 o1
    have hgl : g < w.heap.size := (Array.getElem?_eq_some_iff.1 o4).1
    have hgne : vb ≠ g := fun e => hne (by rw [e]; rfl)
    have hcell : ∀ j u, (icells l)[j]? = some u → w.cell? ⟨g, 0 + j, none⟩ = some u := fun j u hj => by
      rw [Nat.zero_add]
      have := World.ownsRow.cells (show w.ownsRow B 3 1 _ l.length (icells l) from o) (g := g) rfl j u hj
      rwa [Addr.add_lit, Nat.zero_add] at this
    have hfz : ∀ j, w.frozen? ⟨g, j, none⟩ = false := fun j => by
      unfold World.frozen?
      simp only [o4]
      simp
    have hsome : ∀ j, j < cap → (w.cell? ⟨g, j, none⟩).isSome = true := fun j hj => by
      unfold World.cell?
      simp only [o4]
      rw [if_neg (by simp), Array.getElem?_eq_getElem (by omega)]
      rfl
    have h1v : ∀ v ∈ [Value.int .i64 x], v.oneCell' = true := by simp [Value.oneCell']
    by_cases hroom : l.length + 1 ≤ cap
    · obtain ⟨s, hm⟩ := own_more (show w.ownsRow B 3 1 (.slice (some ⟨g, 0, none⟩) l.length cap) l.length (icells l) from o) (by omega)
      by_cases hil : i < l.length
      · refine (Any2.slices_Insert_int_shift Try.laysIns g 0 l.length cap i vb 0 1 1 (icells l) [.int .i64 x] w hil (by omega) hroom (by unfold maxLen at o6; omega) hgne hcl rfl hcell (fun j hj => by rw [Nat.zero_add]; exact hsome j (by omega)) (fun j _ => hfz _) hvs (icells_one l) h1v 3 3 1 cur.size (by simp [World.shape?, hvb]) (by simp [World.shape?, o4]) (by omega) (by simp [World.frozen?, hvb]) (by simp [World.frozen?, hvb])).mono ?_
        rintro e w' ⟨rfl, rfl⟩
        obtain ⟨d1, d2⟩ := own_drew hm
        obtain ⟨k1, k2⟩ := own_setCells ((icells l).drop i) (0 + (i + 1)) d1
        obtain ⟨k3, k4⟩ := own_setCells [.int .i64 x] (0 + i) k1
        have hs := (setL_ins (xs := icells l) (ys := icells l ++ [s]) (i := i) (v := .int .i64 x) (by simp) (by omega) (fun j hj => by rw [List.getElem?_append, if_pos (by omega)])).1
        rw [Nat.zero_add, Nat.zero_add, hs, ← icells_ins] at k3
        refine ⟨_, rfl, ?_, grown_trans (grown_none d2) (grown_trans (show World.grownBy _ _ (some g) from k2) (show World.grownBy _ _ (some g) from k4)), Or.inl rfl⟩
        show World.ownsRow _ _ _ _ _ _ _
        rw [hlen]
        simpa using k3
      · have hie : i = l.length := by omega
        subst hie
        refine (Any2.slices_Insert_int_end_room Try.laysIns g 0 l.length cap vb 0 1 1 [.int .i64 x] w (by omega) hroom (by unfold maxLen at o6; omega) rfl (fun j hj => by rw [Nat.zero_add]; exact hsome _ (by omega)) (fun j _ => hfz _) hvs h1v).mono ?_
        rintro e w' ⟨rfl, rfl⟩
        obtain ⟨k3, k4⟩ := own_setCells [.int .i64 x] (0 + l.length) hm
        have hs : setL (icells l ++ [s]) l.length [.int .i64 x] = icells (insL l l.length x) := by
          rw [icells_ins, List.take_of_length_le (by omega), List.drop_of_length_le (by omega)]
          unfold setL setL
          rw [← hcl, List.set_append_right _ _ (Nat.le_refl _), Nat.sub_self]
          rfl
        rw [Nat.zero_add, hs] at k3
        refine ⟨_, rfl, ?_, show World.grownBy _ _ (some g) from k4, Or.inl rfl⟩
        show World.ownsRow _ _ _ _ _ _ _
        rw [hlen]
        simpa using k3
    · by_cases hil : i < l.length
      · refine (Any2.slices_Insert_int_grow Try.laysIns g 0 l.length cap i vb 0 1 1 (icells l) [.int .i64 x] w hil (by omega) o5 (by omega) (by omega) hcl rfl hcell hvs (icells_one l) h1v).mono ?_
        rintro e w' ⟨rfl, rfl⟩
        have hge := grownCap_ge w (l.length + 1) cap 3
        have hle := grownCap_le_maxLen w (l.length + 1) cap 3 (by unfold maxLen; omega)
        obtain ⟨G, hG⟩ : ∃ G, grownCap w (l.length + 1) cap 3 = G := ⟨_, rfl⟩
        have hG' : grownCap w (l.length + 1) cap (Try.laysIns_ren.t 3) = G := hG
        rw [hG] at hge hle
        rw [hG']
        obtain ⟨Z, hZ⟩ : ∃ Z : Array Value, Z = ((icells l).take i).toArray ++ Builtin.zeroCells (Value.int .i64 0).cells (l.length + 1 - i) ++ Builtin.zeroCells (Value.int .i64 0).cells (G - (l.length + 1)) := ⟨_, rfl⟩
        have hZs : Z.size = G := by
          rw [hZ]
          simp only [Array.size_append, zero_size, List.size_toArray, List.length_take, hcl]
          omega
        obtain ⟨ys, hys⟩ : ∃ ys, Z.toList.take (l.length + 1) = ys := ⟨_, rfl⟩
        have h0 : (w.alloc (.cells Z 3)).ownsRow B 3 1 (.slice (some ⟨w.heap.size, 0, none⟩) (l.length + 1) G) (l.length + 1) ys := ⟨by rw [← hys]; simp; omega, Or.inr ⟨w.heap.size, G, Z, rfl, hB, heap_alloc_new w _, hge, hle, by omega, by rw [Nat.mul_one]; exact hys⟩⟩
        have hyl : ys.length = (icells l).length + 1 := by rw [← hys]; simp; omega
        have hyp : ∀ j, j < i → ys[j]? = (icells l)[j]? := fun j hj => by
          rw [← hys, List.getElem?_take, if_pos (by omega), hZ]
          rw [Array.getElem?_toList, Array.getElem?_append_left (by simp [zero_size]; omega), Array.getElem?_append_left (by simp; omega)]
          simp [hj]
        obtain ⟨d1, _⟩ := own_drew h0
        obtain ⟨k1, k2⟩ := own_setCells [.int .i64 x] i d1
        obtain ⟨d3, _⟩ := own_drew k1
        obtain ⟨k3, k4⟩ := own_setCells ((icells l).drop i) (i + 1) d3
        have hs := (setL_ins (xs := icells l) (ys := ys) (i := i) (v := .int .i64 x) hyl (by omega) hyp).2
        rw [hs, ← icells_ins] at k3
        refine ⟨_, rfl, ?_, ?_, Or.inr rfl⟩
        · show World.ownsRow _ _ _ _ _ _ _
          rw [hlen, ← hZ]
          exact k3
        · rw [← hZ]
          have hall : ∀ k, k < w.heap.size → ((((w.alloc (.cells Z 3)).drew.setCells w.heap.size i [.int .i64 x]).drew).setCells w.heap.size (i + 1) ((icells l).drop i)).heap[k]? = w.heap[k]? := fun k hk => by
            have hne2 : some k ≠ some w.heap.size := by simp; omega
            have hsz : k < (w.alloc (.cells Z 3)).heap.size := by simp; omega
            rw [k4.block k (by have := k2.size; exact Nat.lt_of_lt_of_le hsz this) hne2]
            exact (k2.block k hsz hne2).trans ((World.grownBy_alloc w (.cells Z 3) none).block k hk (by simp))
          refine ⟨k4.os.trans k2.os, k4.tape.trans k2.tape, k4.output.trans k2.output, ?_, fun k hk _ => hall k hk⟩
          have s1 := k2.size
          have s2 := k4.size
          have s3 : w.heap.size ≤ (w.alloc (.cells Z 3)).heap.size := by simp
          exact Nat.le_trans s3 (Nat.le_trans s1 s2)
      · have hie : i = l.length := by omega
        subst hie
        refine (Any2.slices_Insert_int_end_grow Try.laysIns (some ⟨g, 0, none⟩) l.length cap vb 0 1 1 (icells l) [.int .i64 x] w (by omega) o5 (by omega) (by omega) hcl rfl (fun h => by cases h) (fun a ha j u hj => by injection ha with ha; subst ha; rw [Addr.add_lit]; exact hcell j u hj) hvs h1v).mono ?_
        rintro e w' ⟨rfl, rfl⟩
        have hge := grownCap_ge w (l.length + 1) cap 3
        have hle := grownCap_le_maxLen w (l.length + 1) cap 3 (by unfold maxLen; omega)
        refine ⟨_, rfl, ?_, grown_alloc2 w _ _, Or.inr rfl⟩
        show World.ownsRow _ _ _ _ _ _ _
        rw [hlen]
        refine ⟨by rw [icells_ins]; simp; omega, Or.inr ⟨w.heap.size, _, _, rfl, hB, heap_alloc_new w.drew _, hge, hle, ?_, ?_⟩⟩
        · rw [Nat.mul_one]
          simp only [Array.size_append, zero_size, List.size_toArray, List.length_append, hcl, List.length_singleton]
          exact (by have : l.length + 1 ≤ grownCap w (l.length + 1) cap 3 := hge; show l.length + 1 + (grownCap w (l.length + 1) cap 3 - (l.length + 1)) = grownCap w (l.length + 1) cap 3; omega)
        · have e : icells (insL l l.length x) = icells l ++ [.int .i64 x] := by rw [icells_ins, List.take_of_length_le (l := icells l) (by omega), List.drop_of_length_le (l := icells l) (by omega)]
          rw [Nat.mul_one, e]
          simp only [Array.toList_append]
          rw [List.take_append_of_le_length (by simp [hcl])]
          exact List.take_of_length_le (by simp [hcl])
end Go.Proofs.Ytcgdmonejogbaaa
