/- Rows of one's own that are changed in place: what slices.Delete does, of whatever type. -/
import Derived.Test.YtgfiofogcnnkhaaGI
namespace Go.Proofs.Ytgfiofogcnnkhaa
open Go.RowKit Go.Sort
open Go

structure RowIs (w : World) (g e cap size : Nat) (cur : List Value) : Prop where
  row : w.heap[g]? = some (.cells cur.toArray e (0, 0))
  len : cur.length = cap * size
  max : cap ≤ maxLen
theorem RowIs.own {w : World} {g e cap size : Nat} {cur : List Value} (h : RowIs w g e cap size cur) {n : Nat} (hn : n ≤ cap) {B : Nat} (hB : B ≤ g) : w.ownsRow B e size (.slice (some ⟨g, 0, none⟩) n cap) n (cur.take (n * size)) := by
  have hl := h.len
  have hm : n * size ≤ cap * size := Nat.mul_le_mul_right _ hn
  exact ⟨by rw [List.length_take]; omega, Or.inr ⟨g, cap, cur.toArray, rfl, hB, h.row, hn, h.max, by simpa using hl, by simp⟩⟩
theorem row_is {w : World} {B g e n cap size : Nat} {xs : List Value} (o : w.ownsRow B e size (.slice (some ⟨g, 0, none⟩) n cap) n xs) : ∃ cur, RowIs w g e cap size cur ∧ cur.take (n * size) = xs ∧ n ≤ cap ∧ B ≤ g ∧ xs.length = n * size := by
  obtain ⟨h0, ⟨k1, _⟩ | ⟨g2, c2, cur2, k1, kB, k2, k3, k4, k5, k6⟩⟩ := o
  · cases k1
  · simp only [Value.slice.injEq, Option.some.injEq, Addr.mk.injEq] at k1
    obtain ⟨⟨rfl, _⟩, _, rfl⟩ := k1
    exact ⟨cur2.toList, ⟨by simpa using k2, by simpa using k5, k4⟩, k6, k3, kB, h0⟩
theorem RowIs.store {w : World} {g e cap size : Nat} {cur : List Value} (h : RowIs w g e cap size cur) (off : Nat) (vs : List Value) (hf : off + vs.length ≤ cap * size) : RowIs (w.setRow g (cur.take off ++ vs ++ cur.drop (off + vs.length)).toArray) g e cap size (cur.take off ++ vs ++ cur.drop (off + vs.length)) ∧ w.grownBy (w.setRow g (cur.take off ++ vs ++ cur.drop (off + vs.length)).toArray) (some g) := by
  have hl := h.len
  refine ⟨⟨setRow_heap w g _ _ e _ h.row, ?_, h.max⟩, ⟨rfl, rfl, rfl, by simp [World.setRow], fun k _ hk => setRow_other w g k _ (fun e => hk (by rw [e]))⟩⟩
  simp only [List.length_append, List.length_take, List.length_drop]
  omega
theorem grown_trans {w w' w'' : World} {row : Option Nat} (h : w.grownBy w' row) (k : w'.grownBy w'' row) : w.grownBy w'' row := ⟨k.os.trans h.os, k.tape.trans h.tape, k.output.trans h.output, Nat.le_trans h.size k.size, fun i hi hn => (k.block i (Nat.lt_of_lt_of_le hi h.size) hn).trans (h.block i hi hn)⟩
theorem grown_drew {w : World} {row : Option Nat} : w.grownBy w.drew row := ⟨rfl, rfl, rfl, Nat.le_refl _, fun _ _ _ => rfl⟩
/-- append(s[:i], s[j:]...) in place. -/
theorem del_append {w : World} {g e cap size n : Nat} {cur : List Value} (h : RowIs w g e cap size cur) (t : TypeId) (ht : Try.prog.underlying t = some (.slice e)) (i0 : TypeInfo) (hi : Try.prog.info? e = some i0) (hsz : i0.size = size) (h1 : ∀ u ∈ cur.take (n * size), u.oneCell' = true) (i j c : Nat) (hij : i ≤ j) (hj : j ≤ n) (hn : n ≤ cap) (A : Addr) (hA : A = ⟨g, j * size, none⟩ ∨ j = n) :
    (Builtin.append_ #[t, t] t #[.slice (some ⟨g, 0, none⟩) i cap, .slice (some A) (n - j) c]).run Try.prog w = .ok (.slice (some ⟨g, 0, none⟩) (i + (n - j)) cap) (w.setRow g (cur.take (i * size) ++ (cur.take (n * size)).drop (j * size) ++ cur.drop (i * size + ((cur.take (n * size)).drop (j * size)).length)).toArray) := by
  have hl := h.len
  have m1 : n * size ≤ cap * size := Nat.mul_le_mul_right _ hn
  have m2 : j * size ≤ n * size := Nat.mul_le_mul_right _ hj
  have m3 : i * size ≤ j * size := Nat.mul_le_mul_right _ hij
  have hlen : ((cur.take (n * size)).drop (j * size)).length = (n - j) * size := by
    rw [List.length_drop, List.length_take, Nat.sub_mul]
    omega
  have hm := Nat.sub_mul n j size
  have := run_append_room (P := Try.prog) w t t e i0 ht hi g i cap cur.toArray h.row A (n - j) c ((cur.take (n * size)).drop (j * size)) (by rw [hsz]; exact hlen) (fun k u hu => by
    rcases hA with rfl | rfl
    · rw [List.getElem?_drop, List.getElem?_take] at hu
      split at hu
      · have e1 : (⟨g, j * size, none⟩ : Addr).add k = ⟨g, j * size + k, none⟩ := Addr.add_lit _ _ _
        rw [e1]
        simp [World.cell?, h.row, hu]
      · cases hu
    · rw [List.drop_eq_nil_of_le (by rw [List.length_take]; omega)] at hu
      simp at hu) (fun u hu => h1 u (List.mem_of_mem_drop hu)) (by omega) (by rw [hsz, hlen, hm]; simp; omega)
  rw [hsz] at this
  exact this
/-- clear(s[m:n]) -/
theorem del_clear {w : World} {g e cap size n : Nat} {cur : List Value} (h : RowIs w g e cap size cur) (t ty : TypeId) (z : Value) (ht : Try.prog.underlying t = some (.slice e)) (hv : ∀ w, (zeroValue e).run Try.prog w = .ok z w) (hzs : z.cells.size = size) (h1 : ∀ u ∈ z.cells.toList, u.oneCell' = true) (m c : Nat) (hm : m < n) (hn : n ≤ cap) :
    ∃ zs : List Value, zs.length = (n - m) * size ∧ (Builtin.clear_ #[t] ty #[.slice (some ⟨g, m * size, none⟩) (n - m) c]).run Try.prog w = .ok (.tuple #[]) (w.setRow g (cur.take (m * size) ++ zs ++ cur.drop (m * size + zs.length)).toArray) := by
  have m1 : n * size ≤ cap * size := Nat.mul_le_mul_right _ hn
  have m2 := Nat.sub_mul n m size
  have m3 : m * size ≤ n * size := Nat.mul_le_mul_right _ (by omega)
  have hl := h.len
  have hzl : (Builtin.zeroCells z.cells (n - m)).toList.length = (n - m) * size := by
    rw [Array.length_toList, size_zeroCells, hzs]
  refine ⟨(Builtin.zeroCells z.cells (n - m)).toList, hzl, ?_⟩
  have hst := run_storeCells_at Try.prog g (m * size) e (Builtin.zeroCells z.cells (n - m)).toList 0 cur.toArray w h.row (by rw [hzl]; simp; omega) (fun v hv => by
    rw [Array.mem_toList_iff] at hv
    obtain ⟨k, hk, rfl⟩ := Array.mem_map.1 (show v ∈ (Array.range ((n - m) * z.cells.size)).map fun i => z.cells[i % z.cells.size]! from hv)
    have hk' : k < (n - m) * z.cells.size := by simpa using hk
    have h0 : 0 < z.cells.size := by
      rcases Nat.eq_zero_or_pos z.cells.size with h0 | h0
      · rw [h0] at hk'; simp at hk'
      · exact h0
    rw [getElem!_pos z.cells _ (Nat.mod_lt _ h0)]
    exact h1 _ (by simp))
  simp only [Nat.add_zero] at hst
  obtain ⟨k, hk⟩ : ∃ k, n - m = k + 1 := ⟨n - m - 1, by omega⟩
  rw [hk] at hst ⊢
  simp [Builtin.clear_, run_underlying ht, hv, hst]
end Go.Proofs.Ytgfiofogcnnkhaa
