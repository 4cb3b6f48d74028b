/- A row of slices that lie anywhere, one laid anew; what put makes is what the program makes. -/
import Derived.Test.YtcgdmonejogbaaaY5
import Derived.Test.YtcgdmonejogbaaaW5
import Derived.Test.YtcgdmonejogbaaaWA
import Derived.Test.YtcgdmonejogbaaaY26
namespace Go.Proofs.Ytcgdmonejogbaaa
open Go.RowKit Go.Sort
open Go
/-- The first k numbers, others behind each that is a. -/
def ptN (l : List Int) (a : Int) (hs : List Int) : Nat → List Int
  | 0 => []
  | k + 1 => (ptN l a hs k ++ [iat l k]) ++ (if iat l k = a then hs else [])
def ptR (l : List Int) (a : Int) (hs : List Int) : List Int := if l.length = 0 then hs else ptN l a hs l.length
theorem ptN_len (l : List Int) (a : Int) (hs : List Int) (hh : hs.length ≤ 2) : ∀ k, (ptN l a hs k).length ≤ 3 * k
  | 0 => by simp [ptN]
  | k + 1 => by
    have := ptN_len l a hs hh k
    unfold ptN
    rw [List.length_append, List.length_append]
    split <;> simp <;> omega
set_option maxRecDepth 100000 in
set_option maxHeartbeats 16000000 in
theorem put66 (p : Option Addr) (l : List Int) (cp : Nat) (a : Int) (ph : Option Addr) (hs : List Int) (ch : Nat) (w : World) (h : IHas w p l) (hh : IHas w ph hs) (hnil : ph = none → ch = 0) (hl : l.length ≤ 20000) (hl2 : hs.length ≤ 2) : Calls Try.prog 66 #[.slice p l.length cp, .int .i64 a, .slice ph hs.length ch] w fun e w' => ∃ p' c, e = .returned (.slice p' (ptR l a hs).length c) ∧ IOwns w' w.heap.size (.slice p' (ptR l a hs).length c) (ptR l a hs) ∧ Below w.heap.size w w' := by
  have H1 := hide h
  have H2 := hide hh
  have hpl := ptN_len l a hs hl2
  clear h hh
  by_cases h0 : l.length = 0
  · have hR : ptR l a hs = hs := by unfold ptR; rw [if_pos h0]
    rw [hR]
    obtain ⟨v1, D, ea, o1, gr⟩ := append_ints (IOwns.nil w w.heap.size) ph ch hs hnil H2.out (Nat.le_refl _) (by simp; omega)
    have HBD : Below w.heap.size w D := below_grown (Below.refl _ _) (IOwns.nil w w.heap.size) (Nat.le_refl _) (Nat.le_refl _) gr
    obtain ⟨p8, c8, h8, _⟩ := o1.form
    subst h8
    rw [List.nil_append] at o1 ea
    have HOD := hide o1
    have HBD := hide HBD
    rw [h0]
    clear hR o1 gr hpl H1
    go_enter Try.func66, Try.ntmps66
    go_wp2_with (at_builtin; refine wpList_run_append rfl (.const (.slice none 0 0)) (.tmp 12) 44 rfl 44 rfl _ _ _ D rfl rfl ea ?_)
    go_ret
    exact ⟨p8, c8, rfl, HOD.out, HBD.out⟩
  · have hR : ptR l a hs = ptN l a hs l.length := by unfold ptR; rw [if_neg h0]
    rw [hR]
    have z0 : ((l.length : Int) == 0) = false := by rw [beq_eq_false_iff_ne]; omega
    clear hR
    have O0 : Hid (IOwns w w.heap.size (.slice none (ptN l a hs 0).length 0) (ptN l a hs 0)) := IOwns.nil _ _
    go_enter Try.func66, Try.ntmps66
    go_wp2_with fail
    go_loopw [7, 8] (fun t7 t8 wr => ∃ (j : Nat) (p7 : Option Addr) (c7 : Nat), j ≤ l.length ∧ t7 = .slice p7 (ptN l a hs j).length c7 ∧ t8 = .int .i64 j ∧ Hid (Below w.heap.size w wr) ∧ Hid (IOwns wr w.heap.size (.slice p7 (ptN l a hs j).length c7) (ptN l a hs j))) (fun _ t8 _ => l.length - (intOf t8).toNat)
    case atStart => exact ⟨0, none, 0, by omega, rfl, rfl, Below.refl _ _, O0.out⟩
    case round =>
      obtain ⟨j, p7, c7, hj, rfl, rfl, HBr, HOr⟩ := hrel
      clear O0
      have hB : w.heap.size ≤ wr.heap.size := HBr.out.size
      by_cases hlt : j < l.length
      · have j1 : (j : Int) < l.length := by omega
        have hlj := hpl j
        obtain ⟨b, off, rfl, hL⟩ : ∃ b off, p = some ⟨b, off, none⟩ ∧ ILies w b off l := by
          rcases H1.out with e | e
          · subst e; simp at hlt
          · exact e
        have c0 := later HBr.out (hL j hlt)
        have HST : Hid (ptN l a hs (j + 1) = (ptN l a hs j ++ [iat l j]) ++ (if iat l j = a then hs else [])) := rfl
        obtain ⟨x, hx⟩ : ∃ x, iat l j = x := ⟨_, rfl⟩
        rw [hx] at c0 HST
        obtain ⟨L0, hL0⟩ : ∃ L, ptN l a hs j = L := ⟨_, rfl⟩
        rw [hL0] at HOr HST hlj ⊢
        obtain ⟨U, hU⟩ : ∃ U, U = wr.alloc (.cells #[.int .i64 x] 3) := ⟨_, rfl⟩
        have hbU : Below wr.heap.size wr U := by rw [hU]; go_grown
        have hlit : U.cell? ⟨wr.heap.size, 0, none⟩ = some (.int .i64 x) := by rw [hU]; exact one_int _ _
        obtain ⟨v1, D, ea, o1, gr, at1⟩ := append_int (HOr.out.later hbU) hlit (by have := hbU.size; omega) (by omega)
        have HBD : Hid (Below w.heap.size w D) := below_grown (below_step HBr.out hbU) (HOr.out.later hbU) (Nat.le_refl _) (by have := hbU.size; omega) gr
        have c1 := later HBD.out (hL j hlt)
        rw [hx] at c1
        obtain ⟨p8, c8, h8, _⟩ := o1.form
        subst h8
        have HOD := hide o1
        rw [hU] at ea
        have hl8 : (L0 ++ [x]).length ≤ 70000 := by rw [List.length_append]; simp; omega
        obtain ⟨M, hM⟩ : ∃ M, L0 ++ [x] = M := ⟨_, rfl⟩
        rw [hM] at HOD HST hl8 ea
        clear hU hbU hlit o1 gr at1 hx hL0 hM
        go_upto_region 8 with (at_builtin; refine wpList_run_append rfl (.tmp 20) (.tmp 25) 44 rfl 44 rfl _ _ _ D rfl rfl ea ?_)
        clear ea c0
        by_cases hxa : x = a
        · rw [if_pos hxa] at HST
          have t1 : (x == a) = true := by simp [hxa]
          obtain ⟨v2, E, eb, o2, gr2⟩ := append_ints HOD.out ph ch hs hnil (H2.out.later HBD.out) HBD.out.size (by omega)
          have HBE : Hid (Below w.heap.size w E) := below_grown HBD.out HOD.out (Nat.le_refl _) HBD.out.size gr2
          obtain ⟨p9, c9, h9, _⟩ := o2.form
          subst h9
          rw [← HST.out] at o2 eb
          have HOE := hide o2
          clear o2 gr2 hxa
          go_wp2_with (at_builtin; refine wpList_run_append rfl (.tmp 33) (.tmp 34) 44 rfl 44 rfl _ _ _ E rfl rfl eb ?_)
          go_roundw
          case rel => exact ⟨j + 1, p9, c9, by omega, rfl, by go_num, HBE.out, HOE.out⟩
          case measure => simp [intOf]; omega
        · rw [if_neg hxa, List.append_nil] at HST
          have t1 : (x == a) = false := by simp [hxa]
          rw [← HST.out] at HOD ⊢
          clear hxa
          go_wp2
          go_roundw
          case rel => exact ⟨j + 1, p8, c8, by omega, rfl, by go_num, HBD.out, HOD.out⟩
          case measure => simp [intOf]; omega
      · have hje : j = l.length := by omega
        subst hje
        have j1 : ¬ (l.length : Int) < l.length := by omega
        go_wp2
        go_ret
        exact ⟨p7, c7, rfl, HOr.out, HBr.out⟩
end Go.Proofs.Ytcgdmonejogbaaa
namespace Go.Proofs.Ytcgdmonejogbaaa
open Go.RowKit Go.Sort
open Go
structure QRow (w : World) (B g n : Nat) (rv : Nat → Value) (L : Nat → List Int) : Prop where
  own : w.ownsRow B 44 1 (.slice (some ⟨g, 0, none⟩) n n) n ((List.range n).map rv)
  row : ∀ x, x < n → ∃ a c, rv x = .slice a (L x).length c ∧ IHas w a (L x) ∧ (L x).length ≤ maxLen ∧ (L x).length ≤ c ∧ (a = none → c = 0) ∧ (L x ≠ [] → ∀ ad, a = some ad → ad.block ≠ g)
theorem QRow.cell {w : World} {B g n x : Nat} {rv : Nat → Value} {L : Nat → List Int} (h : QRow w B g n rv L) (hx : x < n) : w.cell? ⟨g, x, none⟩ = some (rv x) ∧ w.frozen? ⟨g, x, none⟩ = false := by
  refine ⟨?_, World.ownsRow.frozenAt h.own x⟩
  rw [World.ownsRow.cellAt h.own x (by omega)]
  simp [hx]
theorem QRow.lt {w : World} {B g n : Nat} {rv : Nat → Value} {L : Nat → List Int} (h : QRow w B g n rv L) : B ≤ g ∧ g < w.heap.size := World.ownsRow.lt h.own g rfl
theorem QRow.later {w w' : World} {B g n : Nat} {rv : Nat → Value} {L : Nat → List Int} (h : QRow w B g n rv L) (hb : Below w.heap.size w w') : QRow w' B g n rv L :=
  ⟨World.ownsRow.kept h.own (grown_below hb) (Or.inr (by simp [Value.ownBlock])), fun x hx => by
    obtain ⟨a, c, h1, h2, h3⟩ := h.row x hx
    exact ⟨a, c, h1, h2.later hb, h3⟩⟩
theorem ihas_other {w : World} {a : Option Addr} {l : List Int} {g i : Nat} {u : Value} (h : IHas w a l) (hne : l ≠ [] → ∀ ad, a = some ad → ad.block ≠ g) : IHas (w.setCell ⟨g, i, none⟩ u) a l := by
  rcases h with h | ⟨b, off, rfl, hL⟩
  · exact Or.inl h
  · by_cases hl : l = []
    · exact Or.inl hl
    refine Or.inr ⟨b, off, rfl, fun j hj => ?_⟩
    exact other1' (hL j hj) (show b ≠ g from hne hl ⟨b, off, none⟩ rfl)
theorem QRow.set {w : World} {B g n k : Nat} {rv : Nat → Value} {L : Nat → List Int} (h : QRow w B g n rv L) {a : Option Addr} {c : Nat} {l : List Int} (h1 : IHas w a l) (h2 : l.length ≤ maxLen) (h3 : l.length ≤ c) (h4 : a = none → c = 0) (h5 : l ≠ [] → ∀ ad, a = some ad → ad.block ≠ g) : QRow (w.setCell ⟨g, k, none⟩ (.slice a l.length c)) B g n (upd rv k (.slice a l.length c)) (upd L k l) := by
  refine ⟨?_, fun x hx => ?_⟩
  · have q := (World.ownsRow.stored h.own k (.slice a l.length c)).1
    rw [show ((List.range n).map (upd rv k (.slice a l.length c))) = ((List.range n).map rv).set k (.slice a l.length c) from ?_]
    · exact q
    apply List.ext_getElem
    · simp
    intro i h4 h5
    simp only [List.getElem_map, List.getElem_range, List.getElem_set]
    by_cases hia : k = i
    · subst hia; simp [upd]
    · rw [if_neg hia, upd_other _ _ (fun e => hia e.symm)]
  · by_cases hkx : x = k
    · subst hkx; rw [upd_same, upd_same]; exact ⟨a, c, rfl, ihas_other h1 h5, h2, h3, h4, h5⟩
    · rw [upd_other _ _ hkx, upd_other _ _ hkx]
      obtain ⟨a', c', e1, e2, e3, e4, e5, e6⟩ := h.row x hx
      exact ⟨a', c', e1, ihas_other e2 e6, e3, e4, e5, e6⟩
theorem QRow.congr {w : World} {B g n : Nat} {rv : Nat → Value} {L L' : Nat → List Int} (h : QRow w B g n rv L) (he : ∀ x, x < n → L x = L' x) : QRow w B g n rv L' := ⟨h.own, fun x hx => by rw [← he x hx]; exact h.row x hx⟩
theorem QRow.has {w : World} {B g n : Nat} {rv : Nat → Value} {L : Nat → List Int} {rs : List (List Int)} (h : QRow w B g n rv L) (hn : rs.length = n) (hL : ∀ v, v < n → L v = lat rs v) : RHas w (some ⟨g, 0, none⟩) rs := by
  refine Or.inr ⟨g, 0, rfl, fun v hv => ?_⟩
  rw [hn] at hv
  obtain ⟨a, c, e, m, z1, z2, z3, _⟩ := h.row v hv
  rw [hL v hv] at e m z1 z2
  exact ⟨a, c, by rw [Nat.zero_add, (h.cell hv).1, e], m, z1, z2, z3⟩
theorem qrow_made {w : World} {base g n : Nat} (h : w.ownsRow base 44 1 (.slice (some ⟨g, 0, none⟩) n n) n (madeCells #[.slice none 0 0] n).toList) : QRow w base g n (fun _ => .slice none 0 0) (fun _ => []) := by
  rw [toList_madeCells_one] at h
  refine ⟨?_, fun x hx => ?_⟩
  · rw [show ((List.range n).map fun _ => Value.slice none 0 0) = List.replicate n (.slice none 0 0) from by apply List.ext_getElem <;> simp]
    exact h
  · exact ⟨none, 0, rfl, Or.inl rfl, by simp, by simp, fun _ => rfl, fun h => absurd rfl h⟩
/-- A list that stands in an elder world lies in an elder block. -/
theorem ihas_lt {w : World} {a : Option Addr} {l : List Int} (h : IHas w a l) (hl : l ≠ []) : ∀ ad, a = some ad → ad.block < w.heap.size := fun ad hd => by
  rcases h with h | ⟨b, off, rfl, hL⟩
  · exact absurd h hl
  · injection hd with hd
    subst hd
    have h0 : 0 < l.length := List.length_pos_iff.2 hl
    exact block_lt_of_cell (hL 0 h0)
theorem take_iat (l : List Int) {k : Nat} (hk : k < l.length) : l.take k ++ [iat l k] = l.take (k + 1) := by
  rw [List.take_succ_eq_append_getElem hk]
  congr 1
  unfold iat
  rw [List.getD_eq_getElem?_getD, List.getElem?_eq_getElem hk]
  rfl
theorem ptN_split {l : List Int} {a : Int} {hs : List Int} {i : Nat} (hia : ∀ j, j < l.length → (iat l j = a ↔ j = i)) (hi : i < l.length) : ∀ k, k ≤ l.length → ptN l a hs k = if i < k then l.take (i + 1) ++ hs ++ (l.take k).drop (i + 1) else l.take k
  | 0, _ => by simp [ptN]
  | k + 1, hk => by
    have ih := ptN_split (hs := hs) hia hi k (by omega)
    unfold ptN
    rw [ih]
    by_cases h1 : i < k
    · have h2 : ¬ iat l k = a := fun e => by have := (hia k (by omega)).1 e; omega
      rw [if_pos h1, if_neg h2, if_pos (by omega), List.append_nil, List.append_assoc]
      congr 1
      rw [← take_iat l (show k < l.length by omega), List.drop_append_of_le_length (by rw [List.length_take]; omega)]
    · by_cases h3 : i = k
      · subst h3
        rw [if_neg (show ¬ i < i by omega), if_pos ((hia i hi).2 rfl), if_pos (show i < i + 1 by omega), take_iat l hi]
        rw [List.drop_eq_nil_of_le (by rw [List.length_take]; omega), List.append_nil]
      · have h2 : ¬ iat l k = a := fun e => h3 ((hia k (by omega)).1 e).symm
        rw [if_neg h1, if_neg h2, if_neg (by omega), List.append_nil, take_iat l (by omega)]
theorem ptR_in {l : List Int} {a : Int} (hn : l.Nodup) (ha : a ∈ l) (hs : List Int) : ptR l a hs = l.take (l.idxOf a + 1) ++ hs ++ l.drop (l.idxOf a + 1) := by
  obtain ⟨h1, h2, h3⟩ := idxOf_at ha
  have hl : ¬ l.length = 0 := by omega
  unfold ptR
  rw [if_neg hl, ptN_split (i := l.idxOf a) (fun j hj => ⟨fun e => iat_inj hn hj h1 (by rw [e, h2]), fun e => by rw [e]; exact h2⟩) h1 l.length (Nat.le_refl _), if_pos h1, List.take_length]
theorem ptR_one {l : List Int} {a f : Int} (hn : l.Nodup) (ha : a ∈ l ∨ l = []) : ptR l a [f] = putL l a f := by
  rcases ha with ha | rfl
  · rw [ptR_in hn ha]
    unfold putL insL
    rw [idxI_in ha, show ((l.idxOf a : Nat) : Int) + 1 = ((l.idxOf a + 1 : Nat) : Int) from rfl, Int.toNat_natCast, List.append_assoc]
    rfl
  · unfold ptR putL insL idxI
    simp
theorem idxOf_ins {l : List Int} {f : Int} {i : Nat} (hf : f ∉ l) (hi : i ≤ l.length) : (insL l i f).idxOf f = i := by
  unfold insL
  rw [List.idxOf_append, if_neg (fun h => hf (List.mem_of_mem_take h)), List.length_take]
  simp
  omega
theorem ptR_two {l : List Int} {a f : Int} (hn : l.Nodup) (ha : a ∈ l ∨ l = []) (hf : f ∉ l) : ptR l a [f, f + 1] = putL (putL l a f) f (f + 1) := by
  rcases ha with ha | rfl
  · rw [ptR_in hn ha]
    obtain ⟨h1, h2, h3⟩ := idxOf_at ha
    have e1 : putL l a f = insL l (l.idxOf a + 1) f := by
      unfold putL
      rw [idxI_in ha]
      rfl
    rw [e1]
    have hm : f ∈ insL l (l.idxOf a + 1) f := by unfold insL; simp
    have e2 : putL (insL l (l.idxOf a + 1) f) f (f + 1) = insL (insL l (l.idxOf a + 1) f) (l.idxOf a + 1 + 1) (f + 1) := by
      unfold putL
      rw [idxI_in hm, idxOf_ins hf (by omega)]
      rfl
    rw [e2]
    have e3 : insL l (l.idxOf a + 1) f = (l.take (l.idxOf a + 1) ++ [f]) ++ l.drop (l.idxOf a + 1) := by unfold insL; simp
    rw [e3]
    unfold insL
    have hlen : (l.take (l.idxOf a + 1) ++ [f]).length = l.idxOf a + 1 + 1 := by rw [List.length_append, List.length_take]; simp; omega
    have t1 : ((l.take (l.idxOf a + 1) ++ [f]) ++ l.drop (l.idxOf a + 1)).take (l.idxOf a + 1 + 1) = l.take (l.idxOf a + 1) ++ [f] := by rw [← hlen]; exact List.take_left
    have t2 : ((l.take (l.idxOf a + 1) ++ [f]) ++ l.drop (l.idxOf a + 1)).drop (l.idxOf a + 1 + 1) = l.drop (l.idxOf a + 1) := by rw [← hlen]; exact List.drop_left
    rw [t1, t2]
    simp
  · unfold ptR putL insL idxI
    simp
theorem put_nodup {l : List Int} {a f : Int} (hn : l.Nodup) (hf : f ∉ l) : (putL l a f).Nodup := by
  unfold putL insL
  have := (List.perm_middle (a := f) (l₁ := l.take (idxI l a + 1).toNat) (l₂ := l.drop (idxI l a + 1).toNat))
  rw [List.take_append_drop] at this
  rw [this.nodup_iff]
  exact List.nodup_cons.2 ⟨hf, hn⟩
theorem put_mem {l : List Int} {a f x : Int} (h : x ∈ l) : x ∈ putL l a f := by
  unfold putL insL
  have := (List.perm_middle (a := f) (l₁ := l.take (idxI l a + 1).toNat) (l₂ := l.drop (idxI l a + 1).toNat))
  rw [List.take_append_drop] at this
  exact this.mem_iff.2 (List.mem_cons_of_mem _ h)
end Go.Proofs.Ytcgdmonejogbaaa
