/- kura's rename, in every world. -/
import Derived.Test.YtaebbfilgfkckaaKB8
namespace Go.Proofs.Ytaebbfilgfkckaa
open Go.RowKit Go.Sort
open Go
/-- A half-edge's number in the whole net. -/
def rnI (ed : List Int) (x : Int) : Int := 2 * iat ed (x.toNat / 2) + ((x.toNat % 2 : Nat) : Int)
def renK (ed l : List Int) (k : Nat) : List Int := (List.range l.length).map fun i => if i < k then rnI ed (iat l i) else iat l i
theorem renK_length (ed l : List Int) (k : Nat) : (renK ed l k).length = l.length := by simp [renK]
theorem iat_range {f : Nat → Int} {n i : Nat} (h : i < n) : iat ((List.range n).map f) i = f i := by
  unfold iat
  rw [List.getD_eq_getElem?_getD, List.getElem?_map, List.getElem?_range h]
  rfl
theorem renK_at {ed l : List Int} {k i : Nat} (h : i < l.length) : iat (renK ed l k) i = if i < k then rnI ed (iat l i) else iat l i := iat_range h
theorem renK_zero (ed l : List Int) : renK ed l 0 = l := by
  unfold renK
  apply List.ext_getElem
  · simp
  intro i h1 h2
  rw [List.getElem_map, List.getElem_range, if_neg (by omega)]
  unfold iat
  rw [List.getD_eq_getElem?_getD, List.getElem?_eq_getElem h2]
  rfl
theorem renK_step {ed l : List Int} {k : Nat} : (renK ed l k).set k (rnI ed (iat l k)) = renK ed l (k + 1) := by
  unfold renK
  apply List.ext_getElem
  · simp
  intro i h1 h2
  rw [List.getElem_set]
  rw [List.getElem_map, List.getElem_range, List.getElem_map, List.getElem_range]
  by_cases e : k = i
  · subst e; rw [if_pos rfl, if_pos (by omega)]
  · rw [if_neg e]
    by_cases h : i < k
    · rw [if_pos h, if_pos (by omega)]
    · rw [if_neg h, if_neg (by omega)]
theorem renK_all (ed l : List Int) : renK ed l l.length = l.map (rnI ed) := by
  unfold renK
  apply List.ext_getElem
  · simp
  intro i h1 h2
  have h3 : i < l.length := by simpa using h1
  rw [List.getElem_map, List.getElem_range, if_pos h3, List.getElem_map]
  unfold iat
  rw [List.getD_eq_getElem?_getD, List.getElem?_eq_getElem h3]
  rfl
theorem grown_trans {w w' w'' : World} {row : Option Nat} (h : w.grownBy w' row) (k : w'.grownBy w'' row) : w.grownBy w'' row := ⟨k.os.trans h.os, k.tape.trans h.tape, k.output.trans h.output, Nat.le_trans h.size k.size, fun i hi hn => (k.block i (Nat.lt_of_lt_of_le hi h.size) hn).trans (h.block i hi hn)⟩
theorem grown_keeps {w w' : World} {g : Nat} (h : w.grownBy w' (some g)) {a : Addr} {v : Value} (hc : w.cell? a = some v) (hr : a.block ≠ g) : w'.cell? a = some v := by
  have hb : a.block < w.heap.size := block_lt_of_cell hc
  have := h.block a.block hb (fun e => hr (Option.some.inj e))
  unfold World.cell? at *
  rw [this]
  exact hc
set_option maxRecDepth 100000 in
set_option maxHeartbeats 8000000 in
theorem rename63 (g c B : Nat) (l : List Int) (pe : Option Addr) (ed : List Int) (ce : Nat) (w : World) (ho : IOwns w B (.slice (some ⟨g, 0, none⟩) l.length c) l) (he : IHas w pe ed) (hne : ∀ a, pe = some a → a.block ≠ g) (hin : ∀ j, j < l.length → 0 ≤ iat l j ∧ iat l j < 2 * ed.length) (hed : ∀ j, j < ed.length → 0 ≤ iat ed j ∧ iat ed j ≤ 100000) (hl : l.length ≤ 100000) (hel : ed.length ≤ 100000) : Calls Try.prog 63 #[.slice (some ⟨g, 0, none⟩) l.length c, .slice pe ed.length ce] w fun e w' => e = .returned (.tuple #[]) ∧ IOwns w' B (.slice (some ⟨g, 0, none⟩) l.length c) (l.map (rnI ed)) ∧ w.grownBy w' (some g) := by
  have HO := hide ho
  have HE := hide he
  have HN := hide hne
  have HI := hide hin
  have HD := hide hed
  have HG0 : Hid (w.grownBy w (some g)) := grownBy_refl _ _
  clear ho he hne hin hed
  go_enter Try.func63, Try.ntmps63
  go_wp2_with fail
  go_loopw [8] (fun t8 wr => ∃ k : Nat, k ≤ l.length ∧ t8 = .int .i64 k ∧ Hid (IOwns wr B (.slice (some ⟨g, 0, none⟩) l.length c) (renK ed l k)) ∧ Hid (w.grownBy wr (some g))) (fun t8 _ => l.length - (intOf t8).toNat)
  case atStart => exact ⟨0, by omega, rfl, by show IOwns _ _ _ _; rw [renK_zero]; exact HO.out, HG0.out⟩
  case round =>
    obtain ⟨k, hk, rfl, HOr, HGr⟩ := hrel
    clear HG0
    by_cases hlt : k < l.length
    · have j1 : (k : Int) < l.length := by omega
      have hO : IOwns wr B (.slice (some ⟨g, 0, none⟩) (renK ed l k).length c) (renK ed l k) := by rw [renK_length]; exact HOr.out
      have d0 := hO.at_ (j := k) (by rw [renK_length]; exact hlt)
      have f0 := hO.frozen k
      rw [renK_at hlt, if_neg (by omega)] at d0
      obtain ⟨x0, x1⟩ := HI.out k hlt
      have HST := hide (renK_step (ed := ed) (l := l) (k := k))
      have hset := hO.set k (rnI ed (iat l k))
      rw [HST.out, renK_length] at hset
      obtain ⟨x, hx⟩ : ∃ x : Nat, iat l k = x := ⟨(iat l k).toNat, by omega⟩
      rw [hx] at d0 hset x1
      have hq : x / 2 < ed.length := by omega
      have HR : Hid (rnI ed (x : Int) = 2 * iat ed (x / 2) + ((x % 2 : Nat) : Int)) := by show _ = _; unfold rnI; rw [Int.toNat_natCast]
      obtain ⟨b, off, rfl, hL⟩ : ∃ b off, pe = some ⟨b, off, none⟩ ∧ ILies w b off ed := by
        rcases HE.out with e | e
        · rw [e] at hq; simp at hq
        · exact e
      have hbg : b ≠ g := HN.out ⟨b, off, none⟩ rfl
      have c0 := grown_keeps HGr.out (hL (x / 2) hq) hbg
      obtain ⟨y0, y1⟩ := HD.out (x / 2) hq
      have hd : Int.tdiv (x : Int) 2 = ((x / 2 : Nat) : Int) := by rw [Int.tdiv_eq_ediv_of_nonneg (by omega)]; exact (Int.natCast_ediv x 2).symm
      have hr : Int.tmod (x : Int) 2 = ((x % 2 : Nat) : Int) := by rw [Int.tmod_eq_emod_of_nonneg (by omega)]; exact (Int.natCast_emod x 2).symm
      have hs2 : x % 2 < 2 := by omega
      obtain ⟨y, hy⟩ : ∃ y, iat ed (x / 2) = y := ⟨_, rfl⟩
      rw [hy] at c0 y0 y1 HR
      obtain ⟨s, hs⟩ : ∃ s, x % 2 = s := ⟨_, rfl⟩
      obtain ⟨z, hz⟩ : ∃ z, x / 2 = z := ⟨_, rfl⟩
      rw [hs] at hr hs2 HR
      rw [hz] at hd c0 hq
      rw [HR.out] at hset
      have j2 : (z : Int) < ed.length := by omega
      have hzl : z ≤ 100000 := by omega
      have HSE := hide hset
      have HGE : Hid (w.grownBy (wr.setCell ⟨g, k, none⟩ (.int .i64 (2 * y + (s : Int)))) (some g)) := grown_trans HGr.out (World.ownsRow.stored hO k (.int .i64 (2 * y + (s : Int)))).2
      have hxl : x ≤ 200000 := by omega
      clear hset hO hx hy hs hz hL HOr HGr
      go_wp2
      go_roundw
      case rel => exact ⟨k + 1, by omega, by go_num, HSE.out, HGE.out⟩
      case measure => simp [intOf]; omega
    · have hke : k = l.length := by omega
      subst hke
      have j1 : ¬ (l.length : Int) < l.length := by omega
      have HF : Hid (IOwns wr B (.slice (some ⟨g, 0, none⟩) l.length c) (l.map (rnI ed))) := by show IOwns _ _ _ _; rw [← renK_all]; exact HOr.out
      clear HOr
      go_wp2
      go_end0
      exact ⟨rfl, HF.out, HGr.out⟩
end Go.Proofs.Ytaebbfilgfkckaa
