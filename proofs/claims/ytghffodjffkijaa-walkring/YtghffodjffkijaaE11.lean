/- Depth whole; Each, as the closure that it is; begun: what the statements of the sixth layer ask first. -/
import Derived.Test.YtghffodjffkijaaC4
import Derived.Test.YtghffodjffkijaaE10
import Derived.Test.YtghffodjffkijaaE1
import Derived.Test.YtghffodjffkijaaE2
import Derived.Test.YtghffodjffkijaaE3
import Derived.Test.YtghffodjffkijaaC6
import Derived.Test.YtghffodjffkijaaB8
/- Depth, where it refuses. -/
namespace Go.Proofs.Ytghffodjffkijaa
open Go.RowKit Go.Sort
open Go

set_option maxRecDepth 100000 in
set_option maxHeartbeats 8000000 in
theorem depth14no (n : Int) (p : Option Addr) (es : List Pt) (cp : Nat) (s r : Int) (w : World) (h : Has w p es) (hr : refI n es s = r) (h0 : ¬ r = 0) : Calls Try.prog 14 #[nv n p es.length cp, .int .i64 s] w fun e w' => e = .returned (.tuple #[tv nilS nilS nilS nilS, .int .i64 r]) ∧ Below w.heap.size w w' := by
  obtain ⟨W, hW, hb, a0, x0, hs⟩ := two_boxes35 w n p es.length cp
  have RF := hide (refusal36 n p es cp s W (h.later hb))
  rw [hr] at RF
  have HB := hide hb
  have HX := hide x0
  clear h hb a0 x0 hr
  go_enter Try.func14, Try.ntmps14
  go_wp2_with fail
  rw [← hW]
  clear hW
  refine RF.out.mono ?_
  rintro e w1 ⟨rfl, hb1⟩
  have HX1 := hide (box_later HX.out hb1)
  have HB1 := hide (below_step HB.out hb1)
  obtain ⟨c0, c1, c2, c3, f0, f1, f2, f3⟩ := box_cells HX1.out
  clear hb1 RF
  go_wp2
  exact bodyPost_ret (ret_tour2 Try.results14 rfl rfl (set_box35 HX1.out)) rfl ⟨rfl, below_set4 HB1.out (by omega) _ _ _ _⟩
end Go.Proofs.Ytghffodjffkijaa

namespace Go.Proofs.Ytghffodjffkijaa
open Go.RowKit Go.Sort
open Go

/-- A dive from one node. -/
theorem dOneSt_reach {es : List Pt} {m s : Nat} (hm : netB m es = true) (hs : s < m) : Reach es m s (dOneSt es m s) ∧ ∀ h u x : Nat, h < 2 * es.length → fromL es h = u → toL es h = x → 0 ≤ iat (dOneSt es m s).Fa u → Anc es (dOneSt es m s) u x ∨ Anc es (dOneSt es m s) x u := by
  obtain ⟨D, hD, f, hS⟩ := dOne_reach (es := es) hm hs
  have e : dOneSt es m s = D.st := hD.symm
  rw [e]
  have key : ∀ h u x : Nat, h < 2 * es.length → fromL es h = u → toL es h = x → 0 ≤ iat D.st.Fa u → 0 ≤ iat D.st.Fa x ∧ (Anc es D.st u x ∨ Anc es D.st x u) := by
    intro h u x h1 h2 h3 h4
    have un : u < m := by have := fromL_in hm h h1; omega
    have hG := f.fin u un h4 (by rw [hS]; simp)
    obtain ⟨q, hq, hqe⟩ := outL_mem (es := es) (h := 2 * es.length) (v := u) (k := h) h1 h2
    obtain ⟨_, w⟩ := f.gone u un q (by rw [hG]; omega)
    have := w h hqe
    rw [h3, Int.toNat_natCast] at this
    exact this
  exact ⟨⟨f.dk.ok, f.tree, fun h u x h1 h2 h3 h4 => (key h u x h1 h2 h3 h4).1, f.zero, f.first⟩, fun h u x h1 h2 h3 h4 => (key h u x h1 h2 h3 h4).2⟩
theorem depth14all (m : Nat) (p : Option Addr) (es : List Pt) (cp s : Nat) (w : World) (h : Has w p es) (hm : netB m es = true) (hs : s < m) : Calls Try.prog 14 #[nv m p es.length cp, .int .i64 s] w fun e w' => ∃ v gl, e = .returned (.tuple #[v, .int .i64 0]) ∧ TR w' w.heap.size m v (dOneSt es m s) (.slice (some ⟨gl, 0, none⟩) m m) ∧ IRow w' w.heap.size gl m (lwN es (dOneSt es m s) m (dOneSt es m s).O.length) ∧ Below w.heap.size w w' := by
  obtain ⟨r, _⟩ := dOneSt_reach hm hs
  exact depth14 m p es cp s w h hm hs (lows41 m p es cp _ hm r.ok r.tree r.first.1)
set_option maxRecDepth 100000 in
set_option maxHeartbeats 4000000 in
theorem each35f (m : Nat) (p : Option Addr) (es : List Pt) (cp s : Nat) (w : World) (h : Has w p es) (hm : netB m es = true) (hs : s < m) : Calls Try.prog 35 #[nv m p es.length cp, .int .i64 s] w fun e w' => ∃ (k1 k2 : Nat) (po : Option Addr) (co gf : Nat), e = .returned (.func (.func 51) #[] #[.pointer (some ⟨k1, 0, none⟩), .pointer (some ⟨k2, 0, none⟩)]) ∧ w'.cell? ⟨k1, 0, none⟩ = some (.slice po (bOne es m s).O.length co) ∧ w'.cell? ⟨k2, 0, none⟩ = some (.slice (some ⟨gf, 0, none⟩) m m) ∧ IOwns w' w.heap.size (.slice po (bOne es m s).O.length co) (bOne es m s).O ∧ IRow w' w.heap.size gf m (bOne es m s).Fa ∧ Below w.heap.size w w' := by
  obtain ⟨W, hW, hb, a0⟩ := one_net w m p es.length cp
  have BR := hide (breadth13 m p es cp s W (h.later hb) hm hs)
  have HB := hide hb
  have hWs := hb.size
  clear h hb hm
  go_enter Try.func35, Try.ntmps35
  go_wp2_with fail
  rw [← hW]
  clear hW
  refine BR.out.mono ?_
  rintro e w1 ⟨v, rfl, ⟨vo, gb, gf, rfl, ho, _, hfa, _⟩, hb1⟩
  obtain ⟨po, co, hvo, _⟩ := ho.form
  subst hvo
  have HB1 := hide (below_step HB.out hb1)
  have HO := hide (IOwns.base ho hWs)
  have HFA := hide (IRow.base hfa hWs)
  clear hb1 BR ho hfa
  have hbX : ∀ V, Below w1.heap.size w1 V → Below w.heap.size w V := fun V hV => below_step HB1.out hV
  go_wp2_with fail
  obtain ⟨X, hX⟩ : ∃ X, X = w1.alloc (.cells #[.slice po (bOne es m s).O.length co, .slice (some ⟨gb, 0, none⟩) m m, .slice (some ⟨gf, 0, none⟩) m m, nilS] 35) := ⟨_, rfl⟩
  have hx1 : Below w1.heap.size w1 X := by rw [hX]; go_grown
  have HBX := hide (hbX X hx1)
  have HO1 := hide (IOwns.later HO.out hx1)
  have HFA1 := hide (IRow.later HFA.out hx1)
  have c0 : X.cell? ⟨w1.heap.size, 0, none⟩ = some (.slice po (bOne es m s).O.length co) := by rw [hX]; go_cell
  have c2 : X.cell? ⟨w1.heap.size, 2, none⟩ = some (.slice (some ⟨gf, 0, none⟩) m m) := by rw [hX]; go_cell
  have z1 : w1.heap.size < X.heap.size := block_lt_of_cell c0
  have z2 : w1.heap.size ≠ X.heap.size := by omega
  have z3 : w1.heap.size < X.heap.size + 1 := by omega
  have z4 : w1.heap.size ≠ X.heap.size + 1 := by omega
  rw [← hX]
  clear hX hbX hx1
  go_region_held3 (fun V => V.cell? ⟨w1.heap.size, 0, none⟩ = some (.slice po (bOne es m s).O.length co) ∧ V.cell? ⟨w1.heap.size, 2, none⟩ = some (.slice (some ⟨gf, 0, none⟩) m m)) (go_keep) (fail)
  all_goals
    rename_i hHeld
    clear hHeld
    go_wp2
    go_ret
    refine ⟨_, _, po, co, gf, rfl, ?_, ?_, IOwns.later HO1.out ?_, IRow.later HFA1.out ?_, below_step HBX.out ?_⟩
    · go_cell
    · go_cell
    all_goals go_grown
end Go.Proofs.Ytghffodjffkijaa
