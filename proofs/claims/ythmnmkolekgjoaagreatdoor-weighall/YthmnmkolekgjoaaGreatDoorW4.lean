/- Bytes that a call appends to a slice of its own, one by one or cut out of another, beside blocks that stay. -/
import Derived.Test.YthmnmkolekgjoaaGreatDoorW3
namespace Go.Proofs.YthmnmkolekgjoaaGreatDoor
open Go.RowKit
open Go

theorem info5 : (Tryz.prog.info? 5).map (fun i => (i.zero, i.size, i.bytes)) = some (some (.int .u8 0), 1, 1) := by kernel_rfl

/-- The slice value v owns the bytes bs; the kept blocks stand; below B all is as it was. -/
structure Inv (B : Nat) (kept : List (Nat × Array Value)) (w0 w : World) (v : Value) (bs : List Int) : Prop where
  own : w.ownsRow B 5 1 v bs.length (bs.map (Value.int .u8))
  buf : ∀ p ∈ kept, w.heap[p.1]? = some (.cells p.2 82 (0, 0))
  below : Below B w0 w
  base : B ≤ w.heap.size

section
variable {B : Nat} {kept : List (Nat × Array Value)} {w0 w : World} {v : Value} {bs : List Int}

theorem Inv.alloc (I : Inv B kept w0 w v bs) (o : Obj) : Inv B kept w0 (w.alloc o) v bs where
  own := I.own.alloc o
  buf := fun p hp => by
    have h := I.buf p hp
    rw [Below.heap_alloc w o p.1 (Array.getElem?_eq_some_iff.1 h).1]; exact h
  below := I.below.alloc I.base o
  base := by have := I.base; simp; omega

theorem Inv.cast {bs' : List Int} (h : bs = bs') (I : Inv B kept w0 w v bs) : Inv B kept w0 w v bs' := h ▸ I

theorem Inv.drewN (I : Inv B kept w0 w v bs) (n : Nat) : Inv B kept w0 (w.drewN n) v bs where
  own := I.own
  buf := I.buf
  below := below_drewN I.below n
  base := I.base

theorem Inv.grown {w' : World} {v' : Value} {bs' : List Int} (I : Inv B kept w0 w v bs) (hown : w'.ownsRow B 5 1 v' bs'.length (bs'.map (Value.int .u8))) (hg : w.grownBy w' v.ownBlock) : Inv B kept w0 w' v' bs' where
  own := hown
  buf := fun p hp => by
    have h := I.buf p hp
    have hlt := (Array.getElem?_eq_some_iff.1 h).1
    rw [hg.block p.1 hlt ?_]; exact h
    intro e
    rcases I.own.2 with ⟨rfl, _⟩ | ⟨g, cap, cur, rfl, _, hgg, _⟩
    · simp [Value.ownBlock] at e
    · simp [Value.ownBlock] at e
      rw [e] at h
      rw [h] at hgg
      simp at hgg
  below := I.below.grown hg I.base (fun k hk => (I.own.lt k hk).1)
  base := Nat.le_trans I.base hg.size

theorem app_gen {ops : Array Oper} {rest : List Oper} {o : Oper} {a : Act} {Q : Exit → Act → World → Prop} (hgd : o.guard = none) (s x : Operand)
    (ho : o.op = .call { callee := .builtin .append, args := #[s, x], argTypes := #[44, 44] })
    (I : Inv B kept w0 w v bs) (hs : a.eval s = v) (ad : Addr) (m c : Nat) (news : List Int) (hx : a.eval x = .slice (some ad) m c) (hm : news.length = m)
    (hnews : ∀ j u, (news.map (Value.int .u8))[j]? = some u → w.cell? (ad.add j) = some u) (hlen : bs.length + m ≤ 100000)
    (h : ∀ v' w', Inv B kept w0 w' v' (bs ++ news) → wpList Tryz.prog ops Q rest (a.put o.dst v') w') : wpList Tryz.prog ops Q (o :: rest) a w := by
  obtain ⟨i0, hi, hz0, hz1, hz2⟩ := info_parts info5
  subst hm
  refine wpList_append_own w hgd s x 44 ho B 5 i0 (.int .u8 0) 1 1 Tryz.underlying44 hi hz0 hz1 hz2 rfl (by decide) v bs.length (bs.map (Value.int .u8)) hs I.own ad news.length c (news.map (Value.int .u8)) hx (by simp) hnews ?_ ?_ ?_ I.base ?_
  · intro u hu
    obtain ⟨z, _, rfl⟩ := List.mem_map.1 hu
    rfl
  · unfold maxLen; omega
  · omega
  · intro v' w' hown hg _
    refine h v' w' (I.grown ?_ hg)
    rw [List.length_append, List.map_append]; exact hown

theorem app1 {ops : Array Oper} {rest : List Oper} {o : Oper} {a : Act} {Q : Exit → Act → World → Prop} (hgd : o.guard = none) (s x : Operand)
    (ho : o.op = .call { callee := .builtin .append, args := #[s, x], argTypes := #[44, 44] })
    (I : Inv B kept w0 w v bs) (hs : a.eval s = v) (c : Int) (hx : a.eval x = .slice (some ⟨w.heap.size, 0, none⟩) 1 1) (hlen : bs.length ≤ 1000)
    (h : ∀ v' w', Inv B kept w0 w' v' (bs ++ [c]) → wpList Tryz.prog ops Q rest (a.put o.dst v') w') : wpList Tryz.prog ops Q (o :: rest) a (w.alloc (.cells #[.int .u8 c] 5)) :=
  app_gen hgd s x ho (I.alloc _) hs ⟨w.heap.size, 0, none⟩ 1 1 [c] hx rfl (fun j u hj => by
    match j, hj with
    | 0, hj => simp at hj; subst hj; simp [Addr.add]) (by omega) h

theorem app2 {ops : Array Oper} {rest : List Oper} {o : Oper} {a : Act} {Q : Exit → Act → World → Prop} (hgd : o.guard = none) (s x : Operand)
    (ho : o.op = .call { callee := .builtin .append, args := #[s, x], argTypes := #[44, 44] })
    (I : Inv B kept w0 w v bs) (hs : a.eval s = v) (c d : Int) (hx : a.eval x = .slice (some ⟨w.heap.size, 0, none⟩) 2 2) (hlen : bs.length ≤ 1000)
    (h : ∀ v' w', Inv B kept w0 w' v' (bs ++ [c, d]) → wpList Tryz.prog ops Q rest (a.put o.dst v') w') : wpList Tryz.prog ops Q (o :: rest) a (w.alloc (.cells #[.int .u8 c, .int .u8 d] 5)) :=
  app_gen hgd s x ho (I.alloc _) hs ⟨w.heap.size, 0, none⟩ 2 2 [c, d] hx rfl (fun j u hj => by
    match j, hj with
    | 0, hj => simp at hj; subst hj; simp [Addr.add]
    | 1, hj => simp at hj; subst hj; simp [Addr.add]) (by omega) h

theorem app3 {ops : Array Oper} {rest : List Oper} {o : Oper} {a : Act} {Q : Exit → Act → World → Prop} (hgd : o.guard = none) (s x : Operand)
    (ho : o.op = .call { callee := .builtin .append, args := #[s, x], argTypes := #[44, 44] })
    (I : Inv B kept w0 w v bs) (hs : a.eval s = v) (c d e : Int) (hx : a.eval x = .slice (some ⟨w.heap.size, 0, none⟩) 3 3) (hlen : bs.length ≤ 1000)
    (h : ∀ v' w', Inv B kept w0 w' v' (bs ++ [c, d, e]) → wpList Tryz.prog ops Q rest (a.put o.dst v') w') : wpList Tryz.prog ops Q (o :: rest) a (w.alloc (.cells #[.int .u8 c, .int .u8 d, .int .u8 e] 5)) :=
  app_gen hgd s x ho (I.alloc _) hs ⟨w.heap.size, 0, none⟩ 3 3 [c, d, e] hx rfl (fun j u hj => by
    match j, hj with
    | 0, hj => simp at hj; subst hj; simp [Addr.add]
    | 1, hj => simp at hj; subst hj; simp [Addr.add]
    | 2, hj => simp at hj; subst hj; simp [Addr.add]) (by omega) h

theorem Inv.dig {b : Nat} {dc : Array Value} {ds : List Int} (I : Inv B [(b, dc)] w0 w v bs) (hdc : ∀ i : Nat, i < ds.length → dc[i]? = some (.int .u8 (ds.getD i 0))) (i : Nat) (hi : i < ds.length) :
    w.cell? ⟨b, i, none⟩ = some (.int .u8 (ds.getD i 0)) := by
  rw [cell_of_row w b i dc 82 (0, 0) (I.buf (b, dc) (by simp))]
  exact hdc i hi

theorem appS {ops : Array Oper} {rest : List Oper} {o : Oper} {a : Act} {Q : Exit → Act → World → Prop} (hgd : o.guard = none) (s x : Operand)
    (ho : o.op = .call { callee := .builtin .append, args := #[s, x], argTypes := #[44, 44] }) {b : Nat} {dc : Array Value} {ds : List Int}
    (I : Inv B [(b, dc)] w0 w v bs) (hdc : ∀ i : Nat, i < ds.length → dc[i]? = some (.int .u8 (ds.getD i 0))) (hs : a.eval s = v) (i m c : Nat) (hx : a.eval x = .slice (some ⟨b, i, none⟩) m c) (him : i + m ≤ ds.length) (hlen : bs.length ≤ 1000) (hds : ds.length ≤ 1000)
    (h : ∀ v' w', Inv B [(b, dc)] w0 w' v' (bs ++ (ds.drop i).take m) → wpList Tryz.prog ops Q rest (a.put o.dst v') w') : wpList Tryz.prog ops Q (o :: rest) a w :=
  app_gen hgd s x ho I hs ⟨b, i, none⟩ m c ((ds.drop i).take m) hx (by simp; omega) (fun j u hj => by
    rw [List.getElem?_map] at hj
    obtain ⟨z, hz, rfl⟩ := Option.map_eq_some_iff.1 hj
    rw [List.getElem?_take] at hz
    split at hz
    · rw [List.getElem?_drop] at hz
      have hlt : i + j < ds.length := (List.getElem?_eq_some_iff.1 hz).1
      have e : (⟨b, i, none⟩ : Addr).add j = ⟨b, i + j, none⟩ := by unfold Addr.add; split <;> simp_all
      rw [e, I.dig hdc (i + j) hlt]
      simp [List.getD, hz]
    · cases hz) (by omega) h
end
end Go.Proofs.YthmnmkolekgjoaaGreatDoor
