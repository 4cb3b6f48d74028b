/- rot.May and the document's May, in every world. -/
import Derived.Test.YtcgdmonejogbaaaY1
/- Whether a rotation is one: holdsEachOnce, rot.May, in every world. -/
/- What a rotation is, as a plain fact: each half-edge stands once, at the node that it leaves. Pure. -/
namespace Go.Proofs.Ytcgdmonejogbaaa
open Go.RowKit Go.Sort
open Go
/-- What stands ahead of the j-th of the v-th list. -/
def ahead (rs : List (List Int)) (v j : Nat) : List Int := (rs.take v).flatten ++ (lat rs v).take j
/-- The half-edge h may stand there. -/
def stands (es : List Pt) (rs : List (List Int)) (v j : Nat) (h : Int) : Prop := 0 ≤ h ∧ h < 2 * es.length ∧ h ∉ ahead rs v j ∧ fromL es h.toNat = v
instance (es : List Pt) (rs : List (List Int)) (v j : Nat) (h : Int) : Decidable (stands es rs v j h) := by unfold stands; infer_instance
/-- All that was looked at when j of the v-th list are over. -/
def Fits (es : List Pt) (rs : List (List Int)) (v j : Nat) : Prop := (∀ u, u < v → ∀ i, i < (lat rs u).length → stands es rs u i (iat (lat rs u) i)) ∧ ∀ i, i < j → stands es rs v i (iat (lat rs v) i)
def holdsP (es : List Pt) (rs : List (List Int)) : Prop := (∀ u, u < rs.length → ∀ i, i < (lat rs u).length → stands es rs u i (iat (lat rs u) i)) ∧ rs.flatten.length = 2 * es.length
instance (es : List Pt) (rs : List (List Int)) : Decidable (holdsP es rs) := by unfold holdsP; infer_instance
def holdsB (es : List Pt) (rs : List (List Int)) : Bool := decide (holdsP es rs)
/-- rot.May. -/
def rotI (n : Int) (es : List Pt) (rs : List (List Int)) : Int := if netB n es then (if (rs.length : Int) = n then (if holdsB es rs then 0 else 4) else 4) else 1
theorem lat_drop {rs : List (List Int)} {v : Nat} (hv : v < rs.length) : rs.take (v + 1) = rs.take v ++ [lat rs v] := by
  rw [List.take_add_one, List.getElem?_eq_getElem hv]
  unfold lat
  rw [List.getD_eq_getElem?_getD, List.getElem?_eq_getElem hv]
  rfl
theorem iat_take {l : List Int} {j : Nat} (hj : j < l.length) : l.take (j + 1) = l.take j ++ [iat l j] := by
  rw [List.take_add_one, List.getElem?_eq_getElem hj]
  unfold iat
  rw [List.getD_eq_getElem?_getD, List.getElem?_eq_getElem hj]
  rfl
theorem ahead_zero (rs : List (List Int)) : ahead rs 0 0 = [] := by simp [ahead]
theorem ahead_succ {rs : List (List Int)} {v j : Nat} (hj : j < (lat rs v).length) : ahead rs v (j + 1) = ahead rs v j ++ [iat (lat rs v) j] := by
  unfold ahead
  rw [iat_take hj, List.append_assoc]
theorem ahead_next {rs : List (List Int)} {v : Nat} (hv : v < rs.length) : ahead rs (v + 1) 0 = ahead rs v (lat rs v).length := by
  unfold ahead
  rw [lat_drop hv, List.take_length, List.flatten_append]
  simp
theorem ahead_all (rs : List (List Int)) : ahead rs rs.length 0 = rs.flatten := by simp [ahead]
theorem Fits.zero (es : List Pt) (rs : List (List Int)) : Fits es rs 0 0 := ⟨fun u hu => by omega, fun i hi => by omega⟩
theorem Fits.succ {es : List Pt} {rs : List (List Int)} {v j : Nat} (h : Fits es rs v j) (hs : stands es rs v j (iat (lat rs v) j)) : Fits es rs v (j + 1) :=
  ⟨h.1, fun i hi => by
    by_cases e : i = j
    · rw [e]; exact hs
    · exact h.2 i (by omega)⟩
theorem Fits.next {es : List Pt} {rs : List (List Int)} {v : Nat} (h : Fits es rs v (lat rs v).length) : Fits es rs (v + 1) 0 :=
  ⟨fun u hu i hi => by
    by_cases e : u = v
    · subst e; exact h.2 i hi
    · exact h.1 u (by omega) i hi, fun i hi => by omega⟩
/-- What fits has no half-edge twice, and none out of bounds. -/
theorem Fits.nodup {es : List Pt} {rs : List (List Int)} : ∀ {v j : Nat}, v ≤ rs.length → j ≤ (lat rs v).length → Fits es rs v j → (ahead rs v j).Nodup ∧ ∀ x ∈ ahead rs v j, 0 ≤ x ∧ x < 2 * es.length := by
  suffices H : ∀ v, v ≤ rs.length → (∀ j, j ≤ (lat rs v).length → Fits es rs v j → (ahead rs v j).Nodup ∧ ∀ x ∈ ahead rs v j, 0 ≤ x ∧ x < 2 * es.length) from fun {v} {j} hv hj h => H v hv j hj h
  intro v
  induction v with
  | zero =>
    intro _ j
    induction j with
    | zero => intro _ _; rw [ahead_zero]; simp
    | succ j ih =>
      intro hj h
      have h0 := ih (by omega) ⟨h.1, fun i hi => h.2 i (by omega)⟩
      obtain ⟨s1, s2, s3, _⟩ := h.2 j (by omega)
      rw [ahead_succ (by omega)]
      refine ⟨List.nodup_append.2 ⟨h0.1, by simp, fun a ha b hb => by simp at hb; subst hb; exact fun e => s3 (e ▸ ha)⟩, fun x hx => ?_⟩
      rcases List.mem_append.1 hx with hx | hx
      · exact h0.2 x hx
      · simp at hx; subst hx; exact ⟨s1, s2⟩
  | succ v ihv =>
    intro hv j
    induction j with
    | zero =>
      intro _ h
      rw [ahead_next (by omega)]
      exact ihv (by omega) _ (Nat.le_refl _) ⟨fun u hu i hi => h.1 u (by omega) i hi, fun i hi => h.1 v (by omega) i hi⟩
    | succ j ih =>
      intro hj h
      have h0 := ih (by omega) ⟨h.1, fun i hi => h.2 i (by omega)⟩
      obtain ⟨s1, s2, s3, _⟩ := h.2 j (by omega)
      rw [ahead_succ (by omega)]
      refine ⟨List.nodup_append.2 ⟨h0.1, by simp, fun a ha b hb => by simp at hb; subst hb; exact fun e => s3 (e ▸ ha)⟩, fun x hx => ?_⟩
      rcases List.mem_append.1 hx with hx | hx
      · exact h0.2 x hx
      · simp at hx; subst hx; exact ⟨s1, s2⟩
theorem nodup_nat : ∀ (m : Nat) (l : List Nat), l.Nodup → (∀ x ∈ l, x < m) → l.length ≤ m
  | 0, l, _, h => by
    cases l with
    | nil => simp
    | cons x xs => exact absurd (h x (by simp)) (by omega)
  | m + 1, l, hn, h => by
    by_cases hm : m ∈ l
    · have h1 := nodup_nat m (l.erase m) (hn.erase m) (fun x hx => by
        have h2 := h x (List.mem_of_mem_erase hx)
        have h3 : x ≠ m := fun e => by subst e; exact (List.Nodup.not_mem_erase hn) hx
        omega)
      have h4 := List.length_erase_of_mem hm
      omega
    · have := nodup_nat m l hn (fun x hx => by
        have h2 := h x hx
        have h3 : x ≠ m := fun e => hm (e ▸ hx)
        omega)
      omega
/-- Numbers that are below m, none twice, are m at most. -/
theorem nodup_le {l : List Int} {m : Nat} (hn : l.Nodup) (hb : ∀ x ∈ l, 0 ≤ x ∧ x < m) : l.length ≤ m := by
  have h1 : (l.map Int.toNat).Nodup := by
    rw [List.nodup_iff_pairwise_ne] at hn ⊢
    rw [List.pairwise_map]
    refine hn.imp_of_mem ?_
    intro a b ha hb' hab
    have := hb a ha
    have := hb b hb'
    omega
  have := nodup_nat m _ h1 (fun x hx => by
    obtain ⟨y, hy, rfl⟩ := List.mem_map.1 hx
    have := hb y hy
    omega)
  simpa using this
theorem Fits.count {es : List Pt} {rs : List (List Int)} {v j : Nat} (hv : v ≤ rs.length) (hj : j ≤ (lat rs v).length) (h : Fits es rs v j) : (ahead rs v j).length ≤ 2 * es.length := by
  obtain ⟨h1, h2⟩ := h.nodup hv hj
  exact nodup_le h1 (fun x hx => by have := h2 x hx; omega)
end Go.Proofs.Ytcgdmonejogbaaa
namespace Go.Proofs.Ytcgdmonejogbaaa
open Go.RowKit Go.Sort
open Go
/-- A row of truths. -/
def BRow (w : World) (base g n : Nat) (f : Nat → Bool) : Prop := w.ownsRow base 4 1 (.slice (some ⟨g, 0, none⟩) n n) n ((List.range n).map fun i => .bool (f i))
theorem BRow.later {w w' : World} {base g n : Nat} {f : Nat → Bool} (h : BRow w base g n f) (hb : Below w.heap.size w w') : BRow w' base g n f := World.ownsRow.kept h (grown_below hb) (Or.inr (by simp [Value.ownBlock]))
theorem BRow.cell {w : World} {base g n : Nat} {f : Nat → Bool} (h : BRow w base g n f) {i : Nat} (hi : i < n) : w.cell? ⟨g, i, none⟩ = some (.bool (f i)) ∧ w.frozen? ⟨g, i, none⟩ = false := by
  refine ⟨?_, World.ownsRow.frozenAt h i⟩
  rw [World.ownsRow.cellAt h i (by omega)]
  simp [hi]
theorem BRow.lt {w : World} {base g n : Nat} {f : Nat → Bool} (h : BRow w base g n f) : base ≤ g ∧ g < w.heap.size := World.ownsRow.lt h g rfl
theorem BRow.set {w : World} {base g n : Nat} {f : Nat → Bool} (h : BRow w base g n f) {i : Nat} (_hi : i < n) : BRow (w.setCell ⟨g, i, none⟩ (.bool true)) base g n (fun x => if x = i then true else f x) := by
  have q := (World.ownsRow.stored h i (.bool true)).1
  unfold BRow
  rw [show ((List.range n).map fun x => Value.bool (if x = i then true else f x)) = ((List.range n).map fun x => Value.bool (f x)).set i (.bool true) from ?_]
  · exact q
  · refine List.ext_getElem (by simp) ?_
    intro k h1 h2
    simp only [List.getElem_map, List.getElem_range, List.getElem_set]
    by_cases e : i = k
    · rw [if_pos e, if_pos e.symm]
    · rw [if_neg e, if_neg (fun h => e h.symm)]
theorem BRow.congr {w : World} {base g n : Nat} {f f' : Nat → Bool} (h : BRow w base g n f) (he : ∀ i, i < n → f i = f' i) : BRow w base g n f' := by
  unfold BRow at h ⊢
  rw [show ((List.range n).map fun x => Value.bool (f' x)) = ((List.range n).map fun x => Value.bool (f x)) from ?_]
  · exact h
  · refine List.map_congr_left ?_
    intro i hi
    rw [he i (List.mem_range.1 hi)]
theorem brow_made {w : World} {base g n : Nat} (h : w.ownsRow base 4 1 (.slice (some ⟨g, 0, none⟩) n n) n (madeCells #[.bool false] n).toList) : BRow w base g n (fun _ => false) := by
  unfold BRow
  rw [show ((List.range n).map fun _ => Value.bool false) = (madeCells #[.bool false] n).toList from ?_]
  · exact h
  · rw [toList_madeCells_one]
    refine List.ext_getElem (by simp) ?_
    intro k h1 h2
    simp
/-- What was met, when one more was. -/
theorem met_succ {rs : List (List Int)} {v j k : Nat} (hj : j < (lat rs v).length) (hk : iat (lat rs v) j = k) (x : Nat) : (if x = k then true else decide ((x : Int) ∈ ahead rs v j)) = decide ((x : Int) ∈ ahead rs v (j + 1)) := by
  rw [ahead_succ hj, hk]
  by_cases e : x = k
  · subst e; simp
  · rw [if_neg e]
    have : ¬ (x : Int) = k := by omega
    simp [this]
theorem not_holds {es : List Pt} {rs : List (List Int)} {v j : Nat} (hv : v < rs.length) (hj : j < (lat rs v).length) (h : ¬ stands es rs v j (iat (lat rs v) j)) : holdsB es rs = false := by
  refine decide_eq_false fun hp => h (hp.1 v hv j hj)
set_option maxRecDepth 100000 in
set_option maxHeartbeats 8000000 in
theorem holds39 (n : Int) (p : Option Addr) (es : List Pt) (cp : Nat) (q : Option Addr) (rs : List (List Int)) (cq : Nat) (w : World) (h : Has w p es) (hr : RHas w q rs) (hes : es.length ≤ 100000) (hl : rs.length ≤ 100000) : Calls Try.prog 83 #[nv n p es.length cp, .slice q rs.length cq] w fun e w' => e = .returned (.bool (holdsB es rs)) ∧ Below w.heap.size w w' := by
  obtain ⟨i0, hi0, hz0, hz1, hz2⟩ := info_parts info4
  obtain ⟨W, hW, hb, a0⟩ := one_net w n p es.length cp
  have HH := hide (h.later hb)
  have HR := hide (hr.later hb)
  have HB := hide hb
  have HA := hide a0
  obtain ⟨q0, q1, _, _⟩ := a0
  clear h hr hb
  go_enter Try.func83, Try.ntmps83
  go_wp2_with (refine wpList_make_full _ rfl (.tmp 16) (.tmp 16) 68 rfl W.heap.size 4 i0 (.bool false) 1 Try.underlying68 hi0 hz0 hz1 .i64 .i64 _ _ (2 * es.length) rfl rfl rfl rfl ?c1 ?c2 ?c3 ?_)
  case c1 => rw [hz2]; omega
  case c2 => unfold maxLen; omega
  case c3 => exact Nat.le_of_eq (by rw [hW])
  intro w2 hown hgrow
  have hb2 : Below W.heap.size W w2 := by rw [hW]; exact below_made hgrow
  have hsW : W.heap.size = w.heap.size + 1 := by rw [hW]; simp
  have hgp := brow_made hown
  rw [← hsW] at hgp
  try rw [← hsW]
  obtain ⟨g, hg⟩ : ∃ g, W.heap.size = g := ⟨_, rfl⟩
  have HG := hide hg
  have HG0 : Hid (BRow w2 W.heap.size g (2 * es.length) (fun x => decide ((x : Int) ∈ ahead rs 0 0))) := by
    show BRow _ _ _ _ _
    rw [hg] at hgp ⊢
    exact hgp.congr (fun i _ => by rw [ahead_zero]; simp)
  have HB2 := hide hb2
  try rw [hg]
  clear hown hgrow hgp hb2 hsW hg hW q0 q1 hi0 hz0 hz1 hz2 i0
  go_wp2_with fail
  go_loopw [7, 20] (fun t7 t20 wr => ∃ v : Nat, v ≤ rs.length ∧ t7 = .int .i64 ((ahead rs v 0).length : Nat) ∧ t20 = .int .i64 v ∧ Hid (Fits es rs v 0) ∧ Hid (Below W.heap.size W wr) ∧ Hid (BRow wr W.heap.size g (2 * es.length) (fun x => decide ((x : Int) ∈ ahead rs v 0)))) (fun _ t20 _ => rs.length - (intOf t20).toNat)
  case atStart => exact ⟨0, by omega, by rw [ahead_zero]; rfl, rfl, Fits.zero _ _, HB2.out, HG0.out⟩
  case round =>
    obtain ⟨v, hv, rfl, rfl, HF, HBr, HGr⟩ := hrel
    clear HB2 HG0
    by_cases hlt : v < rs.length
    · obtain ⟨b1, o1, a1, k1, rfl, c0W, m1, z1⟩ := HR.out.at_ hlt
      have c0 := later HBr.out c0W
      have e1 : (v : Int) < rs.length := by omega
      have HIA : Hid (∀ V, Below W.heap.size W V → IHas V a1 (lat rs v)) := fun V hV => m1.later hV
      unfold maxLen at z1
      clear m1 c0W
      go_wp2_with fail
      clear c0
      go_loopw [7, 27] (fun t7 t27 wj => ∃ j : Nat, j ≤ (lat rs v).length ∧ t7 = .int .i64 ((ahead rs v j).length : Nat) ∧ t27 = .int .i64 j ∧ Hid (Fits es rs v j) ∧ Hid (Below W.heap.size W wj) ∧ Hid (BRow wj W.heap.size g (2 * es.length) (fun x => decide ((x : Int) ∈ ahead rs v j)))) (fun _ t27 _ => (lat rs v).length - (intOf t27).toNat)
      case atStart => exact ⟨0, by omega, rfl, rfl, HF.out, HBr.out, HGr.out⟩
      case round =>
        obtain ⟨j, hj, rfl, rfl, HFj, HBj, HGj⟩ := hrel
        clear HF HBr HGr
        by_cases hjl : j < (lat rs v).length
        · rcases HIA.out _ HBj.out with h | ⟨b2, o2, rfl, l2⟩
          · rw [h] at hjl; simp at hjl
          have c1 := l2 j hjl
          have HSU := hide (fun hs => HFj.out.succ hs)
          have HNO := hide (fun hn => not_holds (es := es) hlt hjl hn)
          obtain ⟨x, hx⟩ : ∃ x, iat (lat rs v) j = x := ⟨_, rfl⟩
          rw [hx] at c1 HSU HNO
          have HX := hide hx
          have j1 : (j : Int) < (lat rs v).length := by omega
          clear l2 hx
          by_cases x0 : x < 0
          · have t1 : decide (x < 0) = true := by simp [x0]
            go_wp2
            go_ret
            refine ⟨by rw [HNO.out (fun h => by have := h.1; omega)]; rfl, below_step HB.out HBj.out⟩
          · obtain ⟨k, rfl⟩ : ∃ k : Nat, x = k := ⟨x.toNat, by omega⟩
            have t1 : decide ((k : Int) < 0) = false := by simp
            clear x0
            by_cases hk : k < 2 * es.length
            · have t2 : ¬ ((k : Int) ≥ 2 * es.length) := by omega
              obtain ⟨d0, f0⟩ := HGj.out.cell hk
              obtain ⟨D, hD⟩ : ∃ D, decide ((k : Int) ∈ ahead rs v j) = D := ⟨_, rfl⟩
              rw [hD] at d0
              have HD := hide hD
              clear hD
              cases D
              · -- not met yet
                have hkq : k / 2 < es.length := by omega
                rcases HH.out.later HBj.out with h0 | ⟨b, off, rfl, hL⟩
                · subst h0; simp at hkq
                obtain ⟨y0, y1⟩ := hL (k / 2) hkq
                obtain ⟨q0, q1, _, _⟩ := HA.out.later HBj.out
                have hd : Int.tdiv (k : Int) 2 = ((k / 2 : Nat) : Int) := by rw [Int.tdiv_eq_ediv_of_nonneg (by omega)]; exact (Int.natCast_ediv k 2).symm
                have hr : Int.tmod (k : Int) 2 = ((k % 2 : Nat) : Int) := by rw [Int.tmod_eq_emod_of_nonneg (by omega)]; exact (Int.natCast_emod k 2).symm
                have HFR : Hid (fromL es k = if k % 2 = 0 then (at' es (k / 2)).x else (at' es (k / 2)).y) := rfl
                obtain ⟨pt, hpt⟩ : ∃ pt, at' es (k / 2) = pt := ⟨_, rfl⟩
                rw [hpt] at y0 y1 HFR
                have hr2 : k % 2 < 2 := by omega
                have hkl : k / 2 ≤ 100000 := by omega
                obtain ⟨qq, hqq⟩ : ∃ qq, k / 2 = qq := ⟨_, rfl⟩
                obtain ⟨r, hre⟩ : ∃ r, k % 2 = r := ⟨_, rfl⟩
                rw [hqq] at y0 y1 hd hkq hkl
                rw [hre] at hr HFR hr2
                have i1 : (qq : Int) < es.length := by omega
                have i2 : (0 : Int) ≤ qq := by omega
                have i3 : (k : Int) < 2 * es.length := by omega
                have i4 : (0 : Int) ≤ k := by omega
                have HKK := hide hk
                clear hpt hL hqq hre hk
                have HST : Hid (fromL es k = v → stands es rs v j k) := fun hf => ⟨by omega, by omega, of_decide_eq_false HD.out, by rw [Int.toNat_natCast]; exact hf⟩
                have HNS : Hid (fromL es k ≠ v → holdsB es rs = false) := fun hf => HNO.out (fun h => hf (by have := h.2.2.2; rw [Int.toNat_natCast] at this; exact this))
                have h01 : r = 0 ∨ r = 1 := by omega
                have HAL := hide (HFj.out.count (Nat.le_of_lt hlt) hj)
                have HLN : Hid ((ahead rs v (j + 1)).length = (ahead rs v j).length + 1) := by show _ = _; rw [ahead_succ hjl]; simp
                have HSET : Hid (BRow (wr.setCell ⟨g, k, none⟩ (.bool true)) W.heap.size g (2 * es.length) (fun x => decide ((x : Int) ∈ ahead rs v (j + 1)))) := (HGj.out.set HKK.out).congr (fun i _ => met_succ hjl HX.out i)
                have HBS : Hid (Below W.heap.size W (wr.setCell ⟨g, k, none⟩ (.bool true))) := HBj.out.setCell (p := ⟨g, k, none⟩) (HGj.out.lt.1) _
                obtain ⟨cn, hcn⟩ : ∃ cn, (ahead rs v j).length = cn := ⟨_, rfl⟩
                rw [hcn] at HAL HLN ⊢
                have hal := HAL.out
                clear hcn
                rcases h01 with rfl | rfl
                · have hff : fromL es k = pt.x := by rw [HFR.out]; rw [if_pos rfl]
                  by_cases hf : pt.x = (v : Int)
                  · have t3 : (pt.x == (v : Int)) = true := by simp [hf]
                    have HOK := hide (HSU.out (HST.out (by rw [hff]; exact hf)))
                    clear hf hff HFR
                    go_wp2
                    go_roundw
                    case rel => exact ⟨j + 1, by omega, by rw [HLN.out]; go_num, by go_num, HOK.out, HBS.out, HSET.out⟩
                    case measure => simp [intOf]; omega
                  · have t3 : (pt.x == (v : Int)) = false := by simp [hf]
                    have HOK := hide (HNS.out (by rw [hff]; exact hf))
                    clear hf hff HFR
                    go_wp2
                    go_ret
                    exact ⟨by rw [HOK.out]; rfl, below_step HB.out HBj.out⟩
                · have hff : fromL es k = pt.y := by rw [HFR.out]; rw [if_neg (by omega)]
                  by_cases hf : pt.y = (v : Int)
                  · have t3 : (pt.y == (v : Int)) = true := by simp [hf]
                    have HOK := hide (HSU.out (HST.out (by rw [hff]; exact hf)))
                    clear hf hff HFR
                    go_wp2
                    go_roundw
                    case rel => exact ⟨j + 1, by omega, by rw [HLN.out]; go_num, by go_num, HOK.out, HBS.out, HSET.out⟩
                    case measure => simp [intOf]; omega
                  · have t3 : (pt.y == (v : Int)) = false := by simp [hf]
                    have HOK := hide (HNS.out (by rw [hff]; exact hf))
                    clear hf hff HFR
                    go_wp2
                    go_ret
                    exact ⟨by rw [HOK.out]; rfl, below_step HB.out HBj.out⟩
              · have i3 : (k : Int) < 2 * es.length := by omega
                have i4 : (0 : Int) ≤ k := by omega
                go_wp2
                go_ret
                refine ⟨by rw [HNO.out (fun h => h.2.2.1 (of_decide_eq_true HD.out))]; rfl, below_step HB.out HBj.out⟩
            · have t2 : (k : Int) ≥ 2 * es.length := by omega
              go_wp2
              go_ret
              refine ⟨by rw [HNO.out (fun h => by have := h.2.1; omega)]; rfl, below_step HB.out HBj.out⟩
        · have hje : j = (lat rs v).length := by omega
          have j1 : ¬ (j : Int) < (lat rs v).length := by omega
          go_wp2
          go_roundw
          case rel => exact ⟨v + 1, by omega, by rw [ahead_next hlt, ← hje], by go_num, by rw [hje] at HFj; exact HFj.out.next, HBj.out, by rw [ahead_next hlt, ← hje]; exact HGj.out⟩
          case measure => simp [intOf]; omega
    · have hve : v = rs.length := by omega
      have e1 : ¬ (v : Int) < rs.length := by omega
      have HEND : Hid (holdsB es rs = decide ((ahead rs v 0).length = 2 * es.length)) := by
        show _ = _
        rw [hve, ahead_all]
        have hf := HF.out
        rw [hve] at hf
        unfold holdsB holdsP
        exact decide_eq_decide.2 ⟨fun h => h.2, fun h => ⟨hf.1, h⟩⟩
      clear hve
      by_cases hc : (ahead rs v 0).length = 2 * es.length
      · have t1 : (((ahead rs v 0).length : Int) == 2 * es.length) = true := by simp; omega
        go_wp2
        go_ret
        exact ⟨by rw [HEND.out, decide_eq_true hc]; rfl, below_step HB.out HBr.out⟩
      · have t1 : (((ahead rs v 0).length : Int) == 2 * es.length) = false := beq_eq_false_iff_ne.2 (by omega)
        go_wp2
        go_ret
        exact ⟨by rw [HEND.out, decide_eq_false hc]; rfl, below_step HB.out HBr.out⟩
end Go.Proofs.Ytcgdmonejogbaaa
namespace Go.Proofs.Ytcgdmonejogbaaa
open Go.RowKit Go.Sort
open Go
set_option maxRecDepth 100000 in
set_option maxHeartbeats 8000000 in
theorem mayR13 (n : Int) (p : Option Addr) (es : List Pt) (cp : Nat) (q : Option Addr) (rs : List (List Int)) (cq : Nat) (w : World) (h : Has w p es) (hr : RHas w q rs) : Calls Try.prog 54 #[nv n p es.length cp, .slice q rs.length cq] w fun e w' => e = .returned (.int .i64 (rotI n es rs)) ∧ Below w.heap.size w w' := by
  obtain ⟨W, hW, hb, a0⟩ := one_net w n p es.length cp
  have M := hide (may13 n p es cp W (h.later hb))
  have HH := hide (h.later hb)
  have HR := hide (hr.later hb)
  have HB := hide hb
  have HA := hide a0
  clear h hr hb a0
  go_enter Try.func54, Try.ntmps54
  go_wp2_with fail
  rw [← hW]
  clear hW
  refine M.out.mono ?_
  rintro e w1 ⟨rfl, hb1⟩
  have HB1 := hide hb1
  obtain ⟨q0, q1, _, _⟩ := HA.out.later hb1
  clear hb1 M
  cases hm : netB n es
  · have HE : Hid (rotI n es rs = 1) := by show _ = _; unfold rotI; rw [hm]; rfl
    clear hm
    go_wp2
    go_ret
    exact ⟨by rw [HE.out]; rfl, below_step HB.out HB1.out⟩
  · obtain ⟨n0, n1, hes, _⟩ := netB_is hm
    by_cases hn : (rs.length : Int) = n
    · have HE : Hid (rotI n es rs = if holdsB es rs then 0 else 4) := by show _ = _; unfold rotI; rw [hm, if_pos rfl, if_pos hn]
      have HD := hide (holds39 n p es cp q rs cq w1 (HH.out.later HB1.out) (HR.out.later HB1.out) (by omega) (by omega))
      obtain ⟨D, hD⟩ : ∃ D, holdsB es rs = D := ⟨_, rfl⟩
      rw [hD] at HD HE
      clear hm hD
      subst hn
      go_wp2_with fail
      refine HD.out.mono ?_
      rintro e w2 ⟨rfl, hb2⟩
      have HB2 := hide (below_step (below_step HB.out HB1.out) hb2)
      clear hb2 q0 q1 HD
      cases D
      · go_wp2
        go_ret
        exact ⟨by rw [HE.out]; rfl, HB2.out⟩
      · go_wp2
        go_ret
        exact ⟨by rw [HE.out]; rfl, HB2.out⟩
    · have HE : Hid (rotI n es rs = 4) := by show _ = _; unfold rotI; rw [hm, if_pos rfl, if_neg hn]
      clear hm
      go_wp2
      go_ret
      exact ⟨by rw [HE.out]; rfl, below_step HB.out HB1.out⟩
set_option maxRecDepth 100000 in
set_option maxHeartbeats 8000000 in
theorem mayR10 (n : Int) (p : Option Addr) (es : List Pt) (cp : Nat) (q : Option Addr) (rs : List (List Int)) (cq : Nat) (w : World) (h : Has w p es) (hr : RHas w q rs) (hl : rs.length ≤ maxLen) : Calls Try.prog 11 #[nv n p es.length cp, .slice q rs.length cq] w fun e w' => e = .returned (.int .i64 (rotI n es rs)) ∧ Below w.heap.size w w' := by
  obtain ⟨i0, hi0, hz0, hz1, hz2⟩ := info_parts info4
  obtain ⟨W0, hW, hb, a0⟩ := one_net w n p es.length cp
  have M := hide (may12 n p es cp W0 (h.later hb))
  have HH0 := hide (h.later hb)
  have HR0 := hide (hr.later hb)
  have HB0 := hide hb
  have HA0 := hide a0
  unfold maxLen at hl
  clear h hr hb a0
  go_enter Try.func11, Try.ntmps11
  go_wp2_with fail
  rw [← hW]
  clear hW
  refine M.out.mono ?_
  rintro e W ⟨rfl, hb1⟩
  have HH := hide (HH0.out.later hb1)
  have HR := hide (HR0.out.later hb1)
  have HA := hide (HA0.out.later hb1)
  have HB := hide (below_step HB0.out hb1)
  obtain ⟨q0, q1, _, _⟩ := HA0.out.later hb1
  clear hb1 M HH0 HR0 HB0 HA0
  cases hm : netB n es
  · have HE : Hid (rotI n es rs = 1) := by show _ = _; unfold rotI; rw [hm]; rfl
    clear hm
    go_wp2
    go_ret
    exact ⟨by rw [HE.out]; rfl, HB.out⟩
  · obtain ⟨n0, n1, hes, hed⟩ := netB_is hm
    clear hed
    by_cases hn : (rs.length : Int) = n
    · have HE : Hid (rotI n es rs = if holdsB es rs then 0 else 4) := by show _ = _; unfold rotI; rw [hm, if_pos rfl, if_pos hn]
      clear hm
      subst hn
      go_wp2_with (refine wpList_make_full _ rfl (.tmp 21) (.tmp 21) 68 rfl W.heap.size 4 i0 (.bool false) 1 Try.underlying68 hi0 hz0 hz1 .i64 .i64 _ _ (2 * es.length) rfl rfl rfl rfl ?c1 ?c2 ?c3 ?_)
      case c1 => rw [hz2]; omega
      case c2 => unfold maxLen; omega
      case c3 => exact Nat.le_refl _
      intro w2 hown hgrow
      have hb2 : Below W.heap.size W w2 := below_made hgrow
      have hgp := brow_made hown
      obtain ⟨g, hg⟩ : ∃ g, W.heap.size = g := ⟨_, rfl⟩
      have HG := hide hg
      have HG0 : Hid (BRow w2 W.heap.size g (2 * es.length) (fun x => decide ((x : Int) ∈ ahead rs 0 0))) := by
        show BRow _ _ _ _ _
        rw [hg] at hgp ⊢
        exact hgp.congr (fun i _ => by rw [ahead_zero]; simp)
      have HB2 := hide hb2
      try rw [hg]
      clear hown hgrow hgp hb2 hg q0 q1 hi0 hz0 hz1 hz2 i0
      go_wp2_with fail
      go_loopw [6, 7] (fun t6 t7 wr => ∃ v : Nat, v ≤ rs.length ∧ t6 = .int .i64 ((ahead rs v 0).length : Nat) ∧ t7 = .int .i64 v ∧ Hid (Fits es rs v 0) ∧ Hid (Below W.heap.size W wr) ∧ Hid (BRow wr W.heap.size g (2 * es.length) (fun x => decide ((x : Int) ∈ ahead rs v 0)))) (fun _ t7 _ => rs.length - (intOf t7).toNat)
      case atStart => exact ⟨0, by omega, by rw [ahead_zero]; rfl, rfl, Fits.zero _ _, HB2.out, HG0.out⟩
      case round =>
        obtain ⟨v, hv, rfl, rfl, HF, HBr, HGr⟩ := hrel
        clear HB2 HG0
        obtain ⟨q0, q1, _, _⟩ := HA.out.later HBr.out
        by_cases hlt : v < rs.length
        · obtain ⟨b1, o1, a1, k1, rfl, c0W, m1, z1⟩ := HR.out.at_ hlt
          have e1 : (v : Int) < rs.length := by omega
          have HIA : Hid (∀ V, Below W.heap.size W V → IHas V a1 (lat rs v)) := fun V hV => m1.later hV
          have HC0 : Hid (∀ V, Below W.heap.size W V → V.cell? ⟨b1, o1 + v, none⟩ = some (.slice a1 (lat rs v).length k1)) := fun V hV => later hV c0W
          unfold maxLen at z1
          clear m1 c0W
          go_wp2_with fail
          clear q0 q1
          go_loopw [6, 8] (fun t6 t8 wj => ∃ j : Nat, j ≤ (lat rs v).length ∧ t6 = .int .i64 ((ahead rs v j).length : Nat) ∧ t8 = .int .i64 j ∧ Hid (Fits es rs v j) ∧ Hid (Below W.heap.size W wj) ∧ Hid (BRow wj W.heap.size g (2 * es.length) (fun x => decide ((x : Int) ∈ ahead rs v j)))) (fun _ t8 _ => (lat rs v).length - (intOf t8).toNat)
          case atStart => exact ⟨0, by omega, rfl, rfl, HF.out, HBr.out, HGr.out⟩
          case round =>
            obtain ⟨j, hj, rfl, rfl, HFj, HBj, HGj⟩ := hrel
            clear HF HBr HGr
            have c0 := HC0.out _ HBj.out
            by_cases hjl : j < (lat rs v).length
            · rcases HIA.out _ HBj.out with h | ⟨b2, o2, rfl, l2⟩
              · rw [h] at hjl; simp at hjl
              have c1 := l2 j hjl
              have HSU := hide (fun hs => HFj.out.succ hs)
              have HNO := hide (fun hn => not_holds (es := es) hlt hjl hn)
              obtain ⟨x, hx⟩ : ∃ x, iat (lat rs v) j = x := ⟨_, rfl⟩
              rw [hx] at c1 HSU HNO
              have HX := hide hx
              have j1 : (j : Int) < (lat rs v).length := by omega
              clear l2 hx
              by_cases x0 : x < 0
              · have t1 : decide (x < 0) = true := by simp [x0]
                go_wp2
                go_ret
                exact ⟨by rw [HE.out, HNO.out (fun h => by have := h.1; omega)]; rfl, below_step HB.out HBj.out⟩
              · obtain ⟨k, rfl⟩ : ∃ k : Nat, x = k := ⟨x.toNat, by omega⟩
                have t1 : decide ((k : Int) < 0) = false := by simp
                clear x0
                by_cases hk : k < 2 * es.length
                · have t2 : ¬ ((k : Int) ≥ 2 * es.length) := by omega
                  obtain ⟨d0, f0⟩ := HGj.out.cell hk
                  obtain ⟨D, hD⟩ : ∃ D, decide ((k : Int) ∈ ahead rs v j) = D := ⟨_, rfl⟩
                  rw [hD] at d0
                  have HD := hide hD
                  have i3 : (k : Int) < 2 * es.length := by omega
                  have i4 : (0 : Int) ≤ k := by omega
                  clear hD
                  cases D
                  · -- not met yet
                    obtain ⟨q0, q1, _, _⟩ := HA.out.later HBj.out
                    have FR := hide (from50 (rs.length : Int) p es cp k wr (HH.out.later HBj.out) hk (by omega))
                    have HST : Hid (fromL es k = v → stands es rs v j k) := fun hf => ⟨by omega, by omega, of_decide_eq_false HD.out, by rw [Int.toNat_natCast]; exact hf⟩
                    have HNS : Hid (fromL es k ≠ v → holdsB es rs = false) := fun hf => HNO.out (fun h => hf (by have := h.2.2.2; rw [Int.toNat_natCast] at this; exact this))
                    have HAL := hide (HFj.out.count (Nat.le_of_lt hlt) hj)
                    have HLN : Hid ((ahead rs v (j + 1)).length = (ahead rs v j).length + 1) := by show _ = _; rw [ahead_succ hjl]; simp
                    have HKK := hide hk
                    obtain ⟨cn, hcn⟩ : ∃ cn, (ahead rs v j).length = cn := ⟨_, rfl⟩
                    rw [hcn] at HAL HLN ⊢
                    have hal := HAL.out
                    obtain ⟨fr, hfr⟩ : ∃ fr, fromL es k = fr := ⟨_, rfl⟩
                    rw [hfr] at FR HST HNS
                    clear hcn hfr hk
                    go_wp2_with fail
                    clear q0 q1 c0 c1 d0 f0
                    refine FR.out.mono ?_
                    rintro e wy ⟨rfl, hby⟩
                    have HGy := hide (HGj.out.later hby)
                    have HBy := hide (below_step HBj.out hby)
                    have HSET : Hid (BRow (wy.setCell ⟨g, k, none⟩ (.bool true)) W.heap.size g (2 * es.length) (fun x => decide ((x : Int) ∈ ahead rs v (j + 1)))) := (HGy.out.set HKK.out).congr (fun i _ => met_succ hjl HX.out i)
                    have HBS : Hid (Below W.heap.size W (wy.setCell ⟨g, k, none⟩ (.bool true))) := HBy.out.setCell (p := ⟨g, k, none⟩) (HGy.out.lt.1) _
                    obtain ⟨d0, f0⟩ := HGy.out.cell HKK.out
                    clear hby FR HGj HBj
                    by_cases hf : fr = (v : Int)
                    · have HOK := hide (HSU.out (HST.out hf))
                      subst hf
                      go_wp2
                      go_roundw
                      case rel => exact ⟨j + 1, by omega, by rw [HLN.out]; go_num, by go_num, HOK.out, HBS.out, HSET.out⟩
                      case measure => simp [intOf]; omega
                    · have t3 : (fr == (v : Int)) = false := by simp [hf]
                      have HOK := hide (HNS.out hf)
                      go_wp2
                      go_ret
                      exact ⟨by rw [HE.out, HOK.out]; rfl, below_step HB.out HBy.out⟩
                  · go_wp2
                    go_ret
                    exact ⟨by rw [HE.out, HNO.out (fun h => h.2.2.1 (of_decide_eq_true HD.out))]; rfl, below_step HB.out HBj.out⟩
                · have t2 : (k : Int) ≥ 2 * es.length := by omega
                  go_wp2
                  go_ret
                  exact ⟨by rw [HE.out, HNO.out (fun h => by have := h.2.1; omega)]; rfl, below_step HB.out HBj.out⟩
            · have hje : j = (lat rs v).length := by omega
              have j1 : ¬ (j : Int) < (lat rs v).length := by omega
              go_wp2
              go_roundw
              case rel => exact ⟨v + 1, by omega, by rw [ahead_next hlt, ← hje], by go_num, by rw [hje] at HFj; exact HFj.out.next, HBj.out, by rw [ahead_next hlt, ← hje]; exact HGj.out⟩
              case measure => simp [intOf]; omega
        · have hve : v = rs.length := by omega
          have e1 : ¬ (v : Int) < rs.length := by omega
          have HEND : Hid (holdsB es rs = decide ((ahead rs v 0).length = 2 * es.length)) := by
            show _ = _
            rw [hve, ahead_all]
            have hf := HF.out
            rw [hve] at hf
            unfold holdsB holdsP
            exact decide_eq_decide.2 ⟨fun h => h.2, fun h => ⟨hf.1, h⟩⟩
          have HAL := HF.out.count hv (Nat.zero_le _)
          clear hve
          by_cases hc : (ahead rs v 0).length = 2 * es.length
          · have t1 : ¬ ((ahead rs v 0).length : Int) < 2 * es.length := by omega
            go_wp2
            go_ret
            exact ⟨by rw [HE.out, HEND.out, decide_eq_true hc]; rfl, below_step HB.out HBr.out⟩
          · have t1 : ((ahead rs v 0).length : Int) < 2 * es.length := by omega
            go_wp2
            go_ret
            exact ⟨by rw [HE.out, HEND.out, decide_eq_false hc]; rfl, below_step HB.out HBr.out⟩
    · have HE : Hid (rotI n es rs = 4) := by show _ = _; unfold rotI; rw [hm, if_pos rfl, if_neg hn]
      clear hm
      go_wp2
      go_ret
      exact ⟨by rw [HE.out]; rfl, HB.out⟩
end Go.Proofs.Ytcgdmonejogbaaa
