/- rot.traced, in every world. -/
import Derived.Test.YtcgdmonejogbaaaX5
import Derived.Test.YtcgdmonejogbaaaY7
import Derived.Test.YtcgdmonejogbaaaX3
import Derived.Test.YtcgdmonejogbaaaC4
import Derived.Deep.LoopGhost
/- A half-edge's twin. -/
namespace Go.Proofs.Ytcgdmonejogbaaa
open Go.RowKit Go.Sort
open Go
/-- The half-edge the other way. -/
def twn (h : Int) : Int := if h % 2 = 0 then h + 1 else h - 1
theorem twn_in {k m : Nat} (h : k < 2 * m) : ∃ j : Nat, twn (k : Int) = j ∧ j < 2 * m := by
  unfold twn
  by_cases h2 : (k : Int) % 2 = 0
  · rw [if_pos h2]; exact ⟨k + 1, by omega, by omega⟩
  · rw [if_neg h2]; exact ⟨k - 1, by omega, by omega⟩
theorem nat_xor_one (k : Nat) : ((k ^^^ 1 : Nat) : Int) = twn (k : Int) := by
  have h1 : (k ^^^ 1) / 2 = k / 2 := by rw [Nat.xor_div_two]; simp
  have h2 : (k ^^^ 1) % 2 = (k + 1) % 2 := by have := @Nat.xor_mod_two_eq_one k 1; omega
  unfold twn
  split <;> omega
theorem xor_one (k : Nat) (hk : k < 1000000) : bits .xor .i64 (k : Int) 1 = twn (k : Int) := by
  have hx : k ^^^ 1 < 2 ^ 20 := Nat.xor_lt_two_pow (by omega) (by omega)
  have h1 : (BitVec.ofInt 64 (k : Int)).toNat = k := by
    rw [BitVec.ofInt_natCast, BitVec.toNat_ofNat]; exact Nat.mod_eq_of_lt (by omega)
  have h2 : (BitVec.ofInt 64 (1 : Int)).toNat = 1 := by decide
  show IntKind.i64.wrap ((BitVec.ofInt 64 (k : Int) ^^^ BitVec.ofInt 64 1).toNat : Int) = _
  rw [BitVec.toNat_xor, h1, h2, IntKind.wrap_i64, ← nat_xor_one]
  omega
end Go.Proofs.Ytcgdmonejogbaaa
namespace Go.Proofs.Ytcgdmonejogbaaa
open Go.RowKit Go.Sort
open Go
/-- The next ones, when the first j of the list are over. -/
def nxRow (l : List Int) (N : List Int) : Nat → List Int
  | 0 => N
  | j + 1 => (nxRow l N j).set (twn (iat l j)).toNat (iat l ((j + 1) % l.length))
/-- When v lists are over. -/
def nxN (rs : List (List Int)) (m : Nat) : Nat → List Int
  | 0 => List.replicate m 0
  | v + 1 => nxRow (lat rs v) (nxN rs m v) (lat rs v).length
theorem nxRow_length (l N : List Int) : ∀ j, (nxRow l N j).length = N.length
  | 0 => rfl
  | j + 1 => by simp only [nxRow, List.length_set]; exact nxRow_length l N j
theorem nxN_length (rs : List (List Int)) (m : Nat) : ∀ v, (nxN rs m v).length = m
  | 0 => by simp [nxN]
  | v + 1 => by simp only [nxN]; rw [nxRow_length]; exact nxN_length rs m v
set_option maxRecDepth 100000 in
set_option maxHeartbeats 16000000 in
theorem nexts57 (q : Option Addr) (rs : List (List Int)) (cq E : Nat) (w : World) (hr : RHas w q rs) (hn : rs.length ≤ 100000) (hE : E ≤ 100000) (hl : ∀ v, v < rs.length → (lat rs v).length ≤ 90000) (hb : ∀ v, v < rs.length → ∀ j, j < (lat rs v).length → 0 ≤ iat (lat rs v) j ∧ iat (lat rs v) j < 2 * E) : Calls Try.prog 76 #[.slice q rs.length cq, .int .i64 (2 * E : Nat)] w fun e w' => ∃ g, e = .returned (.slice (some ⟨g, 0, none⟩) (2 * E) (2 * E)) ∧ IRow w' w.heap.size g (2 * E) (nxN rs (2 * E) rs.length) ∧ Below w.heap.size w w' := by
  obtain ⟨i0, hi0, hz0, hz1, hz2⟩ := info_parts info3
  have HR := hide hr
  have HLL := hide hl
  have HBB := hide hb
  obtain ⟨m, hm⟩ : ∃ m, 2 * E = m := ⟨_, rfl⟩
  have HM := hide hm
  rw [hm]
  have hm2 : m ≤ 200000 := by omega
  clear hr hl hb hm
  go_enter Try.func76, Try.ntmps76
  go_wp2_with (refine wpList_make_full _ rfl (.tmp 10) (.tmp 10) 44 rfl w.heap.size 3 i0 (.int .i64 0) 1 Try.underlying44 hi0 hz0 hz1 .i64 .i64 _ _ m rfl rfl rfl rfl ?c1 ?c2 ?c3 ?_)
  case c1 => rw [hz2]; omega
  case c2 => unfold maxLen; omega
  case c3 => exact Nat.le_refl _
  intro w2 hown hgrow
  have HB2 := hide (below_made hgrow)
  have hgp := irow_made hown
  obtain ⟨g, hg⟩ : ∃ g, w.heap.size = g := ⟨_, rfl⟩
  have HG0 : Hid (IRow w2 w.heap.size g m (nxN rs m 0)) := by
    show IRow _ _ _ _ _
    rw [hg] at hgp ⊢
    exact hgp
  try rw [hg]
  clear hown hgrow hgp hg hi0 hz0 hz1 hz2 i0
  go_wp2_with fail
  go_loopw [14] (fun t14 wr => ∃ v : Nat, v ≤ rs.length ∧ t14 = .int .i64 v ∧ Hid (Below w.heap.size w wr) ∧ Hid (IRow wr w.heap.size g m (nxN rs m v))) (fun t14 _ => rs.length - (intOf t14).toNat)
  case atStart => exact ⟨0, by omega, rfl, HB2.out, HG0.out⟩
  case round =>
    obtain ⟨v, hv, rfl, HBr, HGr⟩ := hrel
    clear HB2 HG0
    by_cases hlt : v < rs.length
    · obtain ⟨b1, o1, a1, k1, rfl, c0W, m1, z1⟩ := HR.out.at_ hlt
      have c0 := later HBr.out c0W
      have e1 : (v : Int) < rs.length := by omega
      have HIA : Hid (∀ V, Below w.heap.size w V → IHas V a1 (lat rs v)) := fun V hV => m1.later hV
      have hl9 := HLL.out v hlt
      have HBL := hide (HBB.out v hlt)
      have HNX : Hid (nxN rs m (v + 1) = nxRow (lat rs v) (nxN rs m v) (lat rs v).length) := rfl
      obtain ⟨l, hll⟩ : ∃ l, lat rs v = l := ⟨_, rfl⟩
      obtain ⟨N, hN⟩ : ∃ N, nxN rs m v = N := ⟨_, rfl⟩
      rw [hll] at c0 HIA hl9 HBL HNX
      rw [hN] at HNX HGr
      clear m1 z1 c0W hll hN
      go_wp2_with fail
      clear c0
      go_loopw [20] (fun t20 wj => ∃ j : Nat, j ≤ l.length ∧ t20 = .int .i64 j ∧ Hid (Below w.heap.size w wj) ∧ Hid (IRow wj w.heap.size g m (nxRow l N j))) (fun t20 _ => l.length - (intOf t20).toNat)
      case atStart => exact ⟨0, by omega, rfl, HBr.out, HGr.out⟩
      case round =>
        obtain ⟨j, hj, rfl, HBj, HGj⟩ := hrel
        clear HBr HGr
        by_cases hjl : j < l.length
        · rcases HIA.out _ HBj.out with h | ⟨b2, o2, rfl, l2⟩
          · rw [h] at hjl; simp at hjl
          obtain ⟨x0, x1⟩ := HBL.out j hjl
          have hmod : (j + 1) % l.length < l.length := Nat.mod_lt _ (by omega)
          have c1 := l2 j hjl
          have c2 := l2 ((j + 1) % l.length) hmod
          have HST : Hid (nxRow l N (j + 1) = (nxRow l N j).set (twn (iat l j)).toNat (iat l ((j + 1) % l.length))) := rfl
          obtain ⟨k, hk⟩ : ∃ k : Nat, iat l j = k := ⟨(iat l j).toNat, by omega⟩
          rw [hk] at c1 HST x1
          obtain ⟨t, ht, ht2⟩ := twn_in (k := k) (m := E) (by omega)
          have hxo := xor_one k (by omega)
          rw [ht] at HST hxo
          rw [Int.toNat_natCast] at HST
          have htm : t < m := by have := HM.out; omega
          obtain ⟨y, hy⟩ : ∃ y, iat l ((j + 1) % l.length) = y := ⟨_, rfl⟩
          rw [hy] at c2 HST
          obtain ⟨r, hr⟩ : ∃ r, (j + 1) % l.length = r := ⟨_, rfl⟩
          have hrem : Int.tmod ((j : Int) + 1) l.length = (r : Int) := by
            rw [Int.tmod_eq_emod_of_nonneg (by omega), ← hr]
            have := Int.natCast_emod (j + 1) l.length
            rw [this]; rfl
          rw [hr] at c2 hmod
          obtain ⟨d0, f0⟩ := HGj.out.cell htm
          have j1 : (j : Int) < l.length := by omega
          have j2 : (r : Int) < l.length := by omega
          have j3 : (t : Int) < m := by omega
          have j4 : ¬ (l.length : Int) = 0 := by omega
          have HSET := hide (HGj.out.set t y)
          have HBS : Hid (Below w.heap.size w (wr.setCell ⟨g, t, none⟩ (.int .i64 y))) := HBj.out.setCell (p := ⟨g, t, none⟩) HGj.out.lt.1 _
          rw [← HST.out] at HSET
          clear l2 hk ht ht2 hy hr x0 x1
          go_wp2
          go_roundw
          case rel => exact ⟨j + 1, by omega, by go_num, HBS.out, HSET.out⟩
          case measure => simp [intOf]; omega
        · have hje : j = l.length := by omega
          have j1 : ¬ (j : Int) < l.length := by omega
          go_wp2
          go_roundw
          case rel => exact ⟨v + 1, by omega, by go_num, HBj.out, by show IRow _ _ _ _ _; rw [HNX.out, ← hje]; exact HGj.out⟩
          case measure => simp [intOf]; omega
    · have hve : v = rs.length := by omega
      have e1 : ¬ (v : Int) < rs.length := by omega
      rw [hve] at HGr
      clear hve
      go_wp2
      go_ret
      exact ⟨g, rfl, HGr.out, HBr.out⟩
end Go.Proofs.Ytcgdmonejogbaaa
/- Faces as they are traced: a list of lists that grows, in memory; the tracing as a function. -/
/- Lists of lists that grow. -/
namespace Go.Proofs.Ytcgdmonejogbaaa
open Go.RowKit Go.Sort
open Go
variable {w w' : World} {B k n sz : Nat} {lv : Value} {rv : Nat → Value} {L : Nat → List Int}
theorem lst_kind {B n : Nat} {lv : Value} {xs : List Value} (h : w.ownsRow B 44 1 lv n xs) {g : Nat} (hg : lv.ownBlock = some g) : ∃ cur, w.heap[g]? = some (.cells cur 44 (0, 0)) := by
  obtain ⟨_, ⟨h1, _⟩ | ⟨g1, c1, cur1, h1, h2, h3, _⟩⟩ := h
  · rw [h1] at hg; simp [Value.ownBlock] at hg
  · rw [h1] at hg
    simp only [Value.ownBlock, Option.some.injEq] at hg
    rw [← hg]
    exact ⟨_, h3⟩
theorem lst_apart {B B' n : Nat} {lv v : Value} {xs : List Value} {l : List Int} (h : w.ownsRow B 44 1 lv n xs) (o : IOwns w B' v l) {g : Nat} (hg : lv.ownBlock = some g) : v.ownBlock ≠ some g := by
  obtain ⟨cur, hk⟩ := lst_kind h hg
  exact row_apart hk o (by decide)
theorem append_lst {base g n : Nat} {v x : Value} {xs : List Value} (o : w.ownsRow base 44 1 v n xs) (hk : w.cell? ⟨g, 0, none⟩ = some x) (hx : x.oneCell' = true) (hb : base ≤ w.heap.size) (hl : n ≤ 2000000) :
    ∃ v' w', (Builtin.append_ #[25, 25] 25 #[v, .slice (some ⟨g, 0, none⟩) 1 1]).run Try.prog w = .ok v' w' ∧ w'.ownsRow base 44 1 v' (n + 1) (xs ++ [x]) ∧ w.grownBy w' v.ownBlock ∧ (v'.ownBlock = v.ownBlock ∨ v'.ownBlock = some w.heap.size) := by
  obtain ⟨i0, hi0, hz0, hz1, hz2⟩ := info_parts info41
  have hnews : ∀ j u, [x][j]? = some u → w.cell? ((⟨g, 0, none⟩ : Addr).add j) = some u := by
    intro j u hj
    cases j with
    | zero => simp at hj; subst hj; exact hk
    | succ k => simp at hj
  obtain ⟨v', w', h1, h2, h3, _, h5⟩ := run_append_own_at (P := Try.prog) w base 25 25 44 i0 (.slice none 0 0) 1 24 Try.underlying25 hi0 hz0 hz1 hz2 rfl (by decide) v n xs o ⟨g, 0, none⟩ 1 1 [x] rfl hnews (by simp [hx]) (by unfold maxLen; omega) (by omega) hb
  exact ⟨v', w', h1, h2, h3, h5⟩
end Go.Proofs.Ytcgdmonejogbaaa
namespace Go.Proofs.Ytcgdmonejogbaaa
open Go.RowKit Go.Sort
open Go
/-- Faces in memory, each a row of its own. -/
structure FB (w : World) (B : Nat) (fv : Value) (F : List (List Int)) (rv : Nat → Value) : Prop where
  lst : w.ownsRow B 44 1 fv F.length ((List.range F.length).map rv)
  uniq : ∀ u v j, u < F.length → v < F.length → (rv u).ownBlock = some j → (rv v).ownBlock = some j → u = v
  own : ∀ v, v < F.length → IOwns w B (rv v) (lat F v)
theorem FB.later {w w' : World} {B : Nat} {fv : Value} {F : List (List Int)} {rv : Nat → Value} (h : FB w B fv F rv) (hb : Below w.heap.size w w') : FB w' B fv F rv :=
  ⟨World.ownsRow.kept h.lst (grown_below hb) (by cases fv.ownBlock <;> simp), h.uniq, fun v hv => (h.own v hv).later hb⟩
theorem FB.nil (w : World) (B : Nat) : FB w B (.slice none 0 0) [] (fun _ => .slice none 0 0) := ⟨World.ownsRow_nil _ _ _ _, fun u v j hu => by simp at hu, fun v hv => by simp at hv⟩
theorem lat_snoc {F : List (List Int)} {L : List Int} {v : Nat} : lat (F ++ [L]) v = if v < F.length then lat F v else if v = F.length then L else [] := by
  unfold lat
  rw [List.getD_eq_getElem?_getD, List.getElem?_append]
  split
  · rw [List.getD_eq_getElem?_getD]
  · rename_i h
    by_cases e : v = F.length
    · subst e; simp
    · rw [if_neg e, List.getElem?_eq_none (by simp; omega)]
      rfl
set_option maxRecDepth 100000 in
/-- One face more. -/
theorem FB.push {w : World} {B : Nat} {fv : Value} {F : List (List Int)} {rv : Nat → Value} {L : List Int} {a : Option Addr} {b c : Nat} (h : FB w B fv F rv) (hB : B ≤ w.heap.size) (hx : IOwns w B (.slice a b c) L) (hn : ∀ u j, u < F.length → (Value.slice a b c).ownBlock = some j → (rv u).ownBlock ≠ some j) (hl : F.length ≤ 1000000) :
    ∃ p1 l1 c1 D, (Builtin.append_ #[25, 25] 25 #[fv, .slice (some ⟨w.heap.size, 0, none⟩) 1 1]).run Try.prog (w.alloc (.cells #[.slice a b c] 44)) = .ok (.slice p1 l1 c1) D ∧ l1 = F.length + 1 ∧ FB D B (.slice p1 l1 c1) (F ++ [L]) (upd rv F.length (.slice a b c)) ∧ Below B w D ∧ (∀ v l, IOwns w B v l → IOwns D B v l) := by
  have hb1 : Below w.heap.size w (w.alloc (.cells #[.slice a b c] 44)) := by go_grown
  have h1 := h.later hb1
  have hB1 : B ≤ (w.alloc (.cells #[.slice a b c] 44)).heap.size := Nat.le_trans hB hb1.size
  obtain ⟨v1, D, e1, o1, gr, at1⟩ := append_lst (g := w.heap.size) (x := .slice a b c) h1.lst (by go_cell) rfl hB1 (by omega)
  obtain ⟨p1, c1, hv1, _, _⟩ := World.ownsRow.form o1 (by omega)
  subst hv1
  have down : ∀ v l, IOwns (w.alloc (.cells #[.slice a b c] 44)) B v l → IOwns D B v l := fun v l o => by
    refine World.ownsRow.kept o gr ?_
    cases hb : v.ownBlock with
    | none => exact Or.inl rfl
    | some j => exact Or.inr (fun e => lst_apart h1.lst o e.symm hb)
  have hlen : (F ++ [L]).length = F.length + 1 := by simp
  refine ⟨some ⟨p1, 0, none⟩, F.length + 1, c1, D, e1, rfl, ⟨?_, ?_, ?_⟩, below_grown (hb1.mono hB) h1.lst (Nat.le_refl _) hB1 gr, fun v l o => down v l (o.later hb1)⟩
  · rw [hlen, show ((List.range (F.length + 1)).map (upd rv F.length (.slice a b c))) = (List.range F.length).map rv ++ [.slice a b c] from ?_]
    · exact o1
    rw [List.range_succ, List.map_append, List.map_cons, List.map_nil, upd_same]
    congr 1
    apply List.map_congr_left
    intro i hi
    have := List.mem_range.1 hi
    exact upd_other _ _ (by omega)
  · rw [hlen]
    intro u v j hu hv e2 e3
    by_cases hu' : u = F.length <;> by_cases hv' : v = F.length
    · omega
    · rw [hu', upd_same] at e2
      rw [upd_other _ _ hv'] at e3
      exact absurd e3 (hn v j (by omega) e2)
    · rw [hv', upd_same] at e3
      rw [upd_other _ _ hu'] at e2
      exact absurd e2 (hn u j (by omega) e3)
    · rw [upd_other _ _ hu'] at e2
      rw [upd_other _ _ hv'] at e3
      exact h.uniq u v j (by omega) (by omega) e2 e3
  · rw [hlen]
    intro v hv
    rw [lat_snoc]
    by_cases hv' : v = F.length
    · rw [hv', upd_same, if_neg (by omega), if_pos rfl]
      exact down _ _ (hx.later hb1)
    · rw [upd_other _ _ hv', if_pos (by omega)]
      exact down _ _ (h1.own v (by omega))
/-- Along one face: who is marked, and the face so far. -/
def trIn (N : List Int) (id : Int) : Nat → Int → List Int → List Int → List Int × List Int
  | 0, _, C, f => (C, f)
  | k + 1, h, C, f => if iat C h.toNat < 0 then trIn N id k (iat N h.toNat) (C.set h.toNat id) (f ++ [h]) else (C, f)
/-- The faces, when the half-edges below v are over. -/
def trN (N : List Int) (m : Nat) : Nat → List Int × List (List Int)
  | 0 => (List.replicate m (-1), [])
  | v + 1 => if iat (trN N m v).1 v < 0 then ((trIn N (trN N m v).2.length (m + 1) v (trN N m v).1 []).1, (trN N m v).2 ++ [(trIn N (trN N m v).2.length (m + 1) v (trN N m v).1 []).2]) else trN N m v
theorem trIn_len (N : List Int) (id : Int) : ∀ k h C f, (trIn N id k h C f).1.length = C.length
  | 0, _, _, _ => rfl
  | k + 1, h, C, f => by
    unfold trIn
    split
    · rw [trIn_len N id k]; simp
    · rfl
theorem trN_len (N : List Int) (m : Nat) : ∀ v, (trN N m v).1.length = m
  | 0 => by simp [trN]
  | v + 1 => by
    unfold trN
    split
    · rw [trIn_len]; exact trN_len N m v
    · exact trN_len N m v
theorem trN_faces (N : List Int) (m : Nat) : ∀ v, (trN N m v).2.length ≤ v
  | 0 => by simp [trN]
  | v + 1 => by
    have := trN_faces N m v
    unfold trN
    split
    · simp; exact this
    · omega
end Go.Proofs.Ytcgdmonejogbaaa
namespace Go.Proofs.Ytcgdmonejogbaaa
open Go.RowKit Go.Sort
open Go
/-- A face under way: who is marked, the face so far, the faces ahead of it, each in blocks of their own. -/
structure TS (w : World) (B g m : Nat) (C f : List Int) (face fv : Value) (F : List (List Int)) (rv : Nat → Value) : Prop where
  row : IRow w B g m C
  fb : FB w B fv F rv
  fc : IOwns w B face f
  n1 : face.ownBlock ≠ some g
  n2 : ∀ u, u < F.length → (rv u).ownBlock ≠ some g
  n3 : ∀ u j, u < F.length → face.ownBlock = some j → (rv u).ownBlock ≠ some j
variable {w w' : World} {B g m : Nat} {C f : List Int} {face fv : Value} {F : List (List Int)} {rv : Nat → Value}
theorem TS.later (h : TS w B g m C f face fv F rv) (hb : Below w.heap.size w w') : TS w' B g m C f face fv F rv :=
  ⟨h.row.later hb, h.fb.later hb, h.fc.later hb, h.n1, h.n2, h.n3⟩
theorem TS.mark (h : TS w B g m C f face fv F rv) (j : Nat) (x : Int) : TS (w.setCell ⟨g, j, none⟩ (.int .i64 x)) B g m (C.set j x) f face fv F rv := by
  refine ⟨h.row.set j x, ⟨?_, h.fb.uniq, fun v hv => ownsRow_setCell_other (a := ⟨g, j, none⟩) (h.fb.own v hv) (h.n2 v hv) _⟩, ownsRow_setCell_other (a := ⟨g, j, none⟩) h.fc h.n1 _, h.n1, h.n2, h.n3⟩
  obtain ⟨cur, hk⟩ := row_kind h.row.2
  exact ownsRow_setCell_other (a := ⟨g, j, none⟩) h.fb.lst (row_apart hk h.fb.lst (by decide)) _
set_option maxRecDepth 100000 in
theorem TS.grow (h : TS w B g m C f face fv F rv) (x : Int) (hB : B ≤ w.heap.size) (hl : f.length ≤ 90000) :
    ∃ p1 c1 D, (Builtin.append_ #[44, 44] 44 #[face, .slice (some ⟨w.heap.size, 0, none⟩) 1 1]).run Try.prog (w.alloc (.cells #[.int .i64 x] 3)) = .ok (.slice p1 (f.length + 1) c1) D ∧ TS D B g m C (f ++ [x]) (.slice p1 (f.length + 1) c1) fv F rv ∧ Below B w D := by
  have hb1 : Below w.heap.size w (w.alloc (.cells #[.int .i64 x] 3)) := by go_grown
  have h1 := h.later hb1
  have hB1 : B ≤ (w.alloc (.cells #[.int .i64 x] 3)).heap.size := Nat.le_trans hB hb1.size
  obtain ⟨v1, D, e1, o1, gr, at1⟩ := append_int h1.fc (one_int w x) hB1 hl
  obtain ⟨p1, c1, hv1, _⟩ := o1.form
  have hlen : (f ++ [x]).length = f.length + 1 := by simp
  rw [hlen] at hv1
  subst hv1
  have down : ∀ v l, v.ownBlock ≠ face.ownBlock ∨ v.ownBlock = none → IOwns (w.alloc (.cells #[.int .i64 x] 3)) B v l → IOwns D B v l := fun v l hv o => by
    refine World.ownsRow.kept o gr ?_
    rcases hv with hv | hv
    · exact Or.inr (fun e => hv e)
    · exact Or.inl hv
  have hnew : ∀ j, (Value.slice p1 (f.length + 1) c1).ownBlock = some j → face.ownBlock = some j ∨ j = (w.alloc (.cells #[.int .i64 x] 3)).heap.size := fun j hj => by
    rcases at1 with e | e
    · exact Or.inl (by rw [← e]; exact hj)
    · rw [e] at hj; injection hj with hj; exact Or.inr hj.symm
  have hgl := h1.row.lt.2
  refine ⟨p1, c1, D, e1, ⟨⟨h1.row.1, down _ _ (Or.inl (fun e => h.n1 (by rw [← e]; rfl))) h1.row.2⟩, ⟨?_, h.fb.uniq, fun v hv => ?_⟩, o1, ?_, h.n2, ?_⟩, below_grown (hb1.mono hB) h1.fc (Nat.le_refl _) hB1 gr⟩
  · refine World.ownsRow.kept h1.fb.lst gr ?_
    cases hb : fv.ownBlock with
    | none => exact Or.inl rfl
    | some j => exact Or.inr (fun e => lst_apart h1.fb.lst h1.fc hb e.symm)
  · refine down _ _ ?_ (h1.fb.own v hv)
    cases hb : (rv v).ownBlock with
    | none => exact Or.inr rfl
    | some j => exact Or.inl (fun e => h.n3 v j hv e.symm hb)
  · intro e
    rcases hnew g e with e | e
    · exact h.n1 e
    · omega
  · intro u j hu hj hr
    rcases hnew j hj with e | e
    · exact h.n3 u j hu e hr
    · have := (World.ownsRow.lt (h1.fb.own u hu) j hr).2
      omega
set_option maxRecDepth 100000 in
set_option maxHeartbeats 16000000 in
theorem traced56 (p : Option Addr) (N : List Int) (cn m : Nat) (w : World) (hN : IHas w p N) (hm : N.length = m) (hm2 : m ≤ 90000) (hin : ∀ j, j < m → 0 ≤ iat N j ∧ iat N j < m) : Calls Try.prog 75 #[.slice p m cn] w fun e w' => ∃ p1 c1 g rv, e = .returned (.tuple #[.slice p1 (trN N m m).2.length c1, .slice (some ⟨g, 0, none⟩) m m]) ∧ FB w' w.heap.size (.slice p1 (trN N m m).2.length c1) (trN N m m).2 rv ∧ IRow w' w.heap.size g m (trN N m m).1 ∧ Below w.heap.size w w' := by
  obtain ⟨W, hW⟩ : ∃ W, W = w.alloc (.cells #[.int .i64 (-1)] 3) := ⟨_, rfl⟩
  have hbW : Below w.heap.size w W := by rw [hW]; go_grown
  have RP := hide (repeat52 w.heap.size m (-1) W (by omega) (by rw [hW]; go_cell))
  have HN := hide hN
  have HML := hide hm
  have HIN := hide hin
  have HBW := hide hbW
  clear hN hm hin hbW
  go_enter Try.func75, Try.ntmps75
  go_wp2_with fail
  rw [← hW]
  clear hW
  refine RP.out.mono ?_
  rintro e w1 ⟨g, rfl, hrow, hb1⟩
  have HB1 := hide (below_step HBW.out hb1)
  have HR1 : Hid (IRow w1 w.heap.size g m (trN N m 0).1) := hrow.base HBW.out.size
  have HF1 : Hid (FB w1 w.heap.size (.slice none (trN N m 0).2.length 0) (trN N m 0).2 (fun _ => .slice none 0 0)) := FB.nil _ _
  clear hrow hb1 RP
  go_wp2_with fail
  go_loopw [4, 15] (fun t4 t15 wr => ∃ (v : Nat) (p4 : Option Addr) (c4 : Nat) (rv : Nat → Value), v ≤ m ∧ t4 = .slice p4 (trN N m v).2.length c4 ∧ t15 = .int .i64 v ∧ Hid (Below w.heap.size w wr) ∧ Hid (IRow wr w.heap.size g m (trN N m v).1) ∧ Hid (FB wr w.heap.size (.slice p4 (trN N m v).2.length c4) (trN N m v).2 rv) ∧ Hid (∀ u, u < (trN N m v).2.length → (rv u).ownBlock ≠ some g)) (fun _ t15 _ => m - (intOf t15).toNat)
  case atStart => exact ⟨0, none, 0, _, by omega, rfl, rfl, HB1.out, HR1.out, HF1.out, fun u hu => by simp [trN] at hu⟩
  case round =>
    obtain ⟨v, p4, c4, rv, hv, rfl, rfl, HBr, HRr, HFr, HGr⟩ := hrel
    clear HB1 HR1 HF1
    by_cases hlt : v < m
    · have e1 : (v : Int) < m := by omega
      obtain ⟨d0, f0⟩ := HRr.out.cell hlt
      have HTR : Hid (trN N m (v + 1) = if iat (trN N m v).1 v < 0 then ((trIn N (trN N m v).2.length (m + 1) v (trN N m v).1 []).1, (trN N m v).2 ++ [(trIn N (trN N m v).2.length (m + 1) v (trN N m v).1 []).2]) else trN N m v) := rfl
      have hfl := trN_faces N m v
      have HCL := hide (trN_len N m v)
      obtain ⟨C, hC⟩ : ∃ C, (trN N m v).1 = C := ⟨_, rfl⟩
      obtain ⟨F, hF⟩ : ∃ F, (trN N m v).2 = F := ⟨_, rfl⟩
      rw [hC] at d0 HTR HCL HRr
      rw [hF] at HTR hfl HFr HGr ⊢
      have HCC := hide hC
      have HFF := hide hF
      clear hC hF
      by_cases hx : iat C v < 0
      · rw [if_pos hx] at HTR
        obtain ⟨x, hxx⟩ : ∃ x, iat C v = x := ⟨_, rfl⟩
        rw [hxx] at d0 hx
        have t1 : ¬ (x ≥ 0) := by omega
        clear hxx
        have HTS : Hid (TS wr w.heap.size g m C [] (.slice none 0 0) (.slice p4 F.length c4) F rv) := ⟨HRr.out, HFr.out, IOwns.nil _ _, by simp [Value.ownBlock], HGr.out, fun u j _ h => by simp [Value.ownBlock] at h⟩
        obtain ⟨R, hR⟩ : ∃ R, trIn N F.length (m + 1) v C [] = R := ⟨_, rfl⟩
        rw [hR] at HTR
        have HRR := hide hR
        clear hR HRr HFr
        go_wp2_with fail
        clear d0 f0
        go_loopg [7, 8] (m + 1) (fun gk t7 t8 wj => ∃ (C2 f2 : List Int) (h : Nat) (p7 : Option Addr) (c7 : Nat), h < m ∧ t7 = .slice p7 f2.length c7 ∧ t8 = .int .i64 h ∧ Hid (trIn N F.length gk h C2 f2 = R) ∧ Hid (unl C2 < gk) ∧ Hid (f2.length + unl C2 ≤ m) ∧ Hid (Below w.heap.size w wj) ∧ Hid (TS wj w.heap.size g m C2 f2 (.slice p7 f2.length c7) (.slice p4 F.length c4) F rv))
        case atStart => exact ⟨C, [], v, none, 0, hlt, rfl, rfl, HRR.out, by show _ < _; have := unl_le C; have := HCL.out; omega, by show _ ≤ _; have := unl_le C; have := HCL.out; simp; omega, HBr.out, HTS.out⟩
        case round =>
          obtain ⟨C2, f2, h, p7, c7, hh, rfl, rfl, HTI, HUN, HUM, HBj, HTj⟩ := hrel
          clear HBr HTS
          obtain ⟨d0, f0⟩ := HTj.out.row.cell hh
          have e2 : (h : Int) < m := by omega
          obtain ⟨y, hy⟩ : ∃ y, iat C2 h = y := ⟨_, rfl⟩
          rw [hy] at d0
          have HY := hide hy
          clear hy
          obtain ⟨k, rfl⟩ : ∃ k, gk = k + 1 := ⟨gk - 1, by have := HUN.out; omega⟩
          have hf9 : f2.length ≤ 90000 := by have := HUM.out; omega
          by_cases hy0 : y < 0
          · have HNX : Hid (trIn N F.length k (iat N h) (C2.set h F.length) (f2 ++ [(h : Int)]) = R) := by
              have := HTI.out
              unfold trIn at this
              rw [Int.toNat_natCast, HY.out, if_pos hy0] at this
              exact this
            have HUS := hide (unl_set C2 h F.length (by rw [HTj.out.row.1]; exact hh) (by rw [HY.out]; omega) (by omega))
            obtain ⟨z0, z1⟩ := HIN.out h hh
            obtain ⟨Z, hZ⟩ : ∃ Z, Z = wr.setCell ⟨g, h, none⟩ (.int .i64 F.length) := ⟨_, rfl⟩
            have HTZ : Hid (TS Z w.heap.size g m (C2.set h F.length) f2 (.slice p7 f2.length c7) (.slice p4 F.length c4) F rv) := by
              show TS _ _ _ _ _ _ _ _ _ _
              rw [hZ]
              exact HTj.out.mark h F.length
            have HBZ : Hid (Below w.heap.size w Z) := by show Below _ _ _; rw [hZ]; exact HBj.out.setCell (p := ⟨g, h, none⟩) HTj.out.row.lt.1 _
            go_upto_region 12 with fail
            rw [← hZ]
            clear hZ d0 f0 HTj HBj
            obtain ⟨p1, c1, D, ea, ts1, bd⟩ := HTZ.out.grow h HBZ.out.size hf9
            have HBD : Hid (Below w.heap.size w D) := HBZ.out.trans bd
            have HTD := hide ts1
            rcases HN.out.later HBD.out with hnl | ⟨bN, oN, rfl, hNL⟩
            · exact absurd HML.out (by rw [hnl]; simp; omega)
            have cN := hNL h (by rw [HML.out]; exact hh)
            obtain ⟨h2, hh2⟩ : ∃ h2 : Nat, iat N h = h2 := ⟨(iat N h).toNat, by omega⟩
            rw [hh2] at cN HNX z1
            have HFL : Hid ((f2 ++ [(h : Int)]).length = f2.length + 1) := by show _ = _; simp
            have HUN2 : Hid (unl (C2.set h F.length) < k) := by show _ < _; have := HUN.out; have := HUS.out; omega
            have HUM2 : Hid ((f2 ++ [(h : Int)]).length + unl (C2.set h F.length) ≤ m) := by show _ ≤ _; rw [HFL.out]; have := HUM.out; have := HUS.out; omega
            have z2 : h2 < m := by omega
            clear hNL hh2 ts1 bd z0 z1 HUS HUN HUM HTI
            go_wp2_with (at_builtin; refine wpList_run_append rfl (.tmp 38) (.tmp 40) 44 rfl 44 rfl _ _ _ D rfl rfl ea ?_)
            go_roundg k
            case measure => omega
            case rel => exact ⟨C2.set h F.length, f2 ++ [(h : Int)], h2, p1, c1, z2, by rw [HFL.out], rfl, HNX.out, HUN2.out, HUM2.out, HBD.out, by show TS _ _ _ _ _ _ _ _ _ _; rw [HFL.out]; exact HTD.out⟩
          · have HRE : Hid (R = (C2, f2)) := by
              have := HTI.out
              unfold trIn at this
              rw [Int.toNat_natCast, HY.out, if_neg hy0] at this
              exact this.symm
            have t2 : ¬ y < 0 := hy0
            obtain ⟨p9, l9, c9, D, ea, hl9, fbD, bd, dn⟩ := HTj.out.fb.push HBj.out.size HTj.out.fc HTj.out.n3 (by omega)
            have HBD : Hid (Below w.heap.size w D) := HBj.out.trans bd
            have HFD := hide fbD
            have HRD : Hid (IRow D w.heap.size g m C2) := ⟨HTj.out.row.1, dn _ _ HTj.out.row.2⟩
            have HGD : Hid (∀ u, u < (F ++ [f2]).length → (upd rv F.length (.slice p7 f2.length c7) u).ownBlock ≠ some g) := fun u hu => by
              rw [List.length_append, List.length_singleton] at hu
              by_cases e : u = F.length
              · rw [e, upd_same]; exact HTj.out.n1
              · rw [upd_other _ _ e]; exact HTj.out.n2 u (by omega)
            have HL9 := hide hl9
            have HFL : Hid ((F ++ [f2]).length = l9) := by show _ = _; rw [hl9]; simp
            rw [HRE.out] at HTR
            clear fbD bd dn hl9 HTj HBj
            go_wp2_with (at_builtin; refine wpList_run_append rfl (.tmp 42) (.tmp 44) 25 rfl 25 rfl _ _ _ D rfl rfl ea ?_)
            go_roundw
            case rel => exact ⟨v + 1, p9, c9, _, by omega, by rw [HTR.out, HFL.out], by go_num, HBD.out, by show IRow _ _ _ _ _; rw [HTR.out]; exact HRD.out, by show FB _ _ _ _ _; rw [HTR.out, HFL.out]; exact HFD.out, by show ∀ u, _; rw [HTR.out]; exact HGD.out⟩
            case measure => simp [intOf]; omega
      · rw [if_neg hx] at HTR
        obtain ⟨x, hxx⟩ : ∃ x, iat C v = x := ⟨_, rfl⟩
        rw [hxx] at d0 hx
        have t1 : x ≥ 0 := by omega
        clear hxx
        go_wp2
        go_roundw
        case rel => exact ⟨v + 1, p4, c4, rv, by omega, by rw [HTR.out, HFF.out], by go_num, HBr.out, by show IRow _ _ _ _ _; rw [HTR.out, HCC.out]; exact HRr.out, by show FB _ _ _ _ _; rw [HTR.out, HFF.out]; exact HFr.out, by show ∀ u, _; rw [HTR.out, HFF.out]; exact HGr.out⟩
        case measure => simp [intOf]; omega
    · have hve : v = m := by omega
      have e1 : ¬ (v : Int) < m := by omega
      rw [hve] at HRr HFr ⊢
      clear hve
      have e2 : ¬ (m : Int) < m := by omega
      go_wp2
      go_ret2
      exact ⟨p4, c4, g, rfl, ⟨rv, HFr.out⟩, HRr.out, HBr.out⟩
end Go.Proofs.Ytcgdmonejogbaaa
