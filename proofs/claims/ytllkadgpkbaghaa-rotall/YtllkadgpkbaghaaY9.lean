/- The table of the next half-edges along faces: rot.nexts, in every world. -/
import Derived.Test.YtllkadgpkbaghaaX5
import Derived.Test.YtllkadgpkbaghaaY7
/- A half-edge's twin. -/
namespace Go.Proofs.Ytllkadgpkbaghaa
open Go.RowKit Go.Sort
open Go

/-- The half-edge the other way. -/
def twn (h : Int) : Int := if h % 2 = 0 then h + 1 else h - 1
theorem twn_in {k m : Nat} (h : k < 2 * m) : ∃ j : Nat, twn (k : Int) = j ∧ j < 2 * m := by
  unfold twn
  by_cases h2 : (k : Int) % 2 = 0
  · rw [if_pos h2]; exact ⟨k + 1, by omega, by omega⟩
  · rw [if_neg h2]; exact ⟨k - 1, by omega, by omega⟩
theorem nat_xor_one (k : Nat) : ((k ^^^ 1 : Nat) : Int) = twn (k : Int) := by
  have h1 : (k ^^^ 1) / 2 = k / 2 := by rw [Nat.xor_div_two]; simp
  have h2 : (k ^^^ 1) % 2 = (k + 1) % 2 := by have := @Nat.xor_mod_two_eq_one k 1; omega
  unfold twn
  split <;> omega
theorem xor_one (k : Nat) (hk : k < 1000000) : bits .xor .i64 (k : Int) 1 = twn (k : Int) := by
  have hx : k ^^^ 1 < 2 ^ 20 := Nat.xor_lt_two_pow (by omega) (by omega)
  have h1 : (BitVec.ofInt 64 (k : Int)).toNat = k := by
    rw [BitVec.ofInt_natCast, BitVec.toNat_ofNat]; exact Nat.mod_eq_of_lt (by omega)
  have h2 : (BitVec.ofInt 64 (1 : Int)).toNat = 1 := by decide
  show IntKind.i64.wrap ((BitVec.ofInt 64 (k : Int) ^^^ BitVec.ofInt 64 1).toNat : Int) = _
  rw [BitVec.toNat_xor, h1, h2, IntKind.wrap_i64, ← nat_xor_one]
  omega
end Go.Proofs.Ytllkadgpkbaghaa

namespace Go.Proofs.Ytllkadgpkbaghaa
open Go.RowKit Go.Sort
open Go

/-- The next ones, when the first j of the list are over. -/
def nxRow (l : List Int) (N : List Int) : Nat → List Int
  | 0 => N
  | j + 1 => (nxRow l N j).set (twn (iat l j)).toNat (iat l ((j + 1) % l.length))
/-- When v lists are over. -/
def nxN (rs : List (List Int)) (m : Nat) : Nat → List Int
  | 0 => List.replicate m 0
  | v + 1 => nxRow (lat rs v) (nxN rs m v) (lat rs v).length
theorem nxRow_length (l N : List Int) : ∀ j, (nxRow l N j).length = N.length
  | 0 => rfl
  | j + 1 => by simp only [nxRow, List.length_set]; exact nxRow_length l N j
theorem nxN_length (rs : List (List Int)) (m : Nat) : ∀ v, (nxN rs m v).length = m
  | 0 => by simp [nxN]
  | v + 1 => by simp only [nxN]; rw [nxRow_length]; exact nxN_length rs m v
set_option maxRecDepth 100000 in
set_option maxHeartbeats 16000000 in
theorem nexts57 (q : Option Addr) (rs : List (List Int)) (cq E : Nat) (w : World) (hr : RHas w q rs) (hn : rs.length ≤ 100000) (hE : E ≤ 100000) (hl : ∀ v, v < rs.length → (lat rs v).length ≤ 90000) (hb : ∀ v, v < rs.length → ∀ j, j < (lat rs v).length → 0 ≤ iat (lat rs v) j ∧ iat (lat rs v) j < 2 * E) : Calls Try.prog 57 #[.slice q rs.length cq, .int .i64 (2 * E : Nat)] w fun e w' => ∃ g, e = .returned (.slice (some ⟨g, 0, none⟩) (2 * E) (2 * E)) ∧ IRow w' w.heap.size g (2 * E) (nxN rs (2 * E) rs.length) ∧ Below w.heap.size w w' := by
  obtain ⟨i0, hi0, hz0, hz1, hz2⟩ := info_parts info3
  have HR := hide hr
  have HLL := hide hl
  have HBB := hide hb
  obtain ⟨m, hm⟩ : ∃ m, 2 * E = m := ⟨_, rfl⟩
  have HM := hide hm
  rw [hm]
  have hm2 : m ≤ 200000 := by omega
  clear hr hl hb hm
  go_enter Try.func57, Try.ntmps57
  go_wp2_with (refine wpList_make_full _ rfl (.tmp 10) (.tmp 10) 27 rfl w.heap.size 3 i0 (.int .i64 0) 1 Try.underlying27 hi0 hz0 hz1 .i64 .i64 _ _ m rfl rfl rfl rfl ?c1 ?c2 ?c3 ?_)
  case c1 => rw [hz2]; omega
  case c2 => unfold maxLen; omega
  case c3 => exact Nat.le_refl _
  intro w2 hown hgrow
  have HB2 := hide (below_made hgrow)
  have hgp := irow_made hown
  obtain ⟨g, hg⟩ : ∃ g, w.heap.size = g := ⟨_, rfl⟩
  have HG0 : Hid (IRow w2 w.heap.size g m (nxN rs m 0)) := by
    show IRow _ _ _ _ _
    rw [hg] at hgp ⊢
    exact hgp
  try rw [hg]
  clear hown hgrow hgp hg hi0 hz0 hz1 hz2 i0
  go_wp2_with fail
  go_loopw [14] (fun t14 wr => ∃ v : Nat, v ≤ rs.length ∧ t14 = .int .i64 v ∧ Hid (Below w.heap.size w wr) ∧ Hid (IRow wr w.heap.size g m (nxN rs m v))) (fun t14 _ => rs.length - (intOf t14).toNat)
  case atStart => exact ⟨0, by omega, rfl, HB2.out, HG0.out⟩
  case round =>
    obtain ⟨v, hv, rfl, HBr, HGr⟩ := hrel
    clear HB2 HG0
    by_cases hlt : v < rs.length
    · obtain ⟨b1, o1, a1, k1, rfl, c0W, m1, z1⟩ := HR.out.at_ hlt
      have c0 := later HBr.out c0W
      have e1 : (v : Int) < rs.length := by omega
      have HIA : Hid (∀ V, Below w.heap.size w V → IHas V a1 (lat rs v)) := fun V hV => m1.later hV
      have hl9 := HLL.out v hlt
      have HBL := hide (HBB.out v hlt)
      have HNX : Hid (nxN rs m (v + 1) = nxRow (lat rs v) (nxN rs m v) (lat rs v).length) := rfl
      obtain ⟨l, hll⟩ : ∃ l, lat rs v = l := ⟨_, rfl⟩
      obtain ⟨N, hN⟩ : ∃ N, nxN rs m v = N := ⟨_, rfl⟩
      rw [hll] at c0 HIA hl9 HBL HNX
      rw [hN] at HNX HGr
      clear m1 z1 c0W hll hN
      go_wp2_with fail
      clear c0
      go_loopw [20] (fun t20 wj => ∃ j : Nat, j ≤ l.length ∧ t20 = .int .i64 j ∧ Hid (Below w.heap.size w wj) ∧ Hid (IRow wj w.heap.size g m (nxRow l N j))) (fun t20 _ => l.length - (intOf t20).toNat)
      case atStart => exact ⟨0, by omega, rfl, HBr.out, HGr.out⟩
      case round =>
        obtain ⟨j, hj, rfl, HBj, HGj⟩ := hrel
        clear HBr HGr
        by_cases hjl : j < l.length
        · rcases HIA.out _ HBj.out with h | ⟨b2, o2, rfl, l2⟩
          · rw [h] at hjl; simp at hjl
          obtain ⟨x0, x1⟩ := HBL.out j hjl
          have hmod : (j + 1) % l.length < l.length := Nat.mod_lt _ (by omega)
          have c1 := l2 j hjl
          have c2 := l2 ((j + 1) % l.length) hmod
          have HST : Hid (nxRow l N (j + 1) = (nxRow l N j).set (twn (iat l j)).toNat (iat l ((j + 1) % l.length))) := rfl
          obtain ⟨k, hk⟩ : ∃ k : Nat, iat l j = k := ⟨(iat l j).toNat, by omega⟩
          rw [hk] at c1 HST x1
          obtain ⟨t, ht, ht2⟩ := twn_in (k := k) (m := E) (by omega)
          have hxo := xor_one k (by omega)
          rw [ht] at HST hxo
          rw [Int.toNat_natCast] at HST
          have htm : t < m := by have := HM.out; omega
          obtain ⟨y, hy⟩ : ∃ y, iat l ((j + 1) % l.length) = y := ⟨_, rfl⟩
          rw [hy] at c2 HST
          obtain ⟨r, hr⟩ : ∃ r, (j + 1) % l.length = r := ⟨_, rfl⟩
          have hrem : Int.tmod ((j : Int) + 1) l.length = (r : Int) := by
            rw [Int.tmod_eq_emod_of_nonneg (by omega), ← hr]
            have := Int.natCast_emod (j + 1) l.length
            rw [this]; rfl
          rw [hr] at c2 hmod
          obtain ⟨d0, f0⟩ := HGj.out.cell htm
          have j1 : (j : Int) < l.length := by omega
          have j2 : (r : Int) < l.length := by omega
          have j3 : (t : Int) < m := by omega
          have j4 : ¬ (l.length : Int) = 0 := by omega
          have HSET := hide (HGj.out.set t y)
          have HBS : Hid (Below w.heap.size w (wr.setCell ⟨g, t, none⟩ (.int .i64 y))) := HBj.out.setCell (p := ⟨g, t, none⟩) HGj.out.lt.1 _
          rw [← HST.out] at HSET
          clear l2 hk ht ht2 hy hr x0 x1
          go_wp2
          go_roundw
          case rel => exact ⟨j + 1, by omega, by go_num, HBS.out, HSET.out⟩
          case measure => simp [intOf]; omega
        · have hje : j = l.length := by omega
          have j1 : ¬ (j : Int) < l.length := by omega
          go_wp2
          go_roundw
          case rel => exact ⟨v + 1, by omega, by go_num, HBj.out, by show IRow _ _ _ _ _; rw [HNX.out, ← hje]; exact HGj.out⟩
          case measure => simp [intOf]; omega
    · have hve : v = rs.length := by omega
      have e1 : ¬ (v : Int) < rs.length := by omega
      rw [hve] at HGr
      clear hve
      go_wp2
      go_ret
      exact ⟨g, rfl, HGr.out, HBr.out⟩
end Go.Proofs.Ytllkadgpkbaghaa
