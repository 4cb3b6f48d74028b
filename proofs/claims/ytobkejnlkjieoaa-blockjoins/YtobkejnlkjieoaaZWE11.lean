/- Depth whole; Each, as the closure that it is; begun: what the statements of the sixth layer ask first. -/
import Derived.Test.YtobkejnlkjieoaaZC02
import Derived.Test.YtobkejnlkjieoaaZC05
import Derived.Test.YtobkejnlkjieoaaZWE10
import Derived.Test.YtobkejnlkjieoaaZC08
import Derived.Test.YtobkejnlkjieoaaZWB8
/- Depth, where it refuses. -/
namespace Go.Proofs.Ytobkejnlkjieoaa
open Go.RowKit Go.Sort
open Go

set_option maxRecDepth 100000 in
set_option maxHeartbeats 8000000 in
theorem depth14no (n : Int) (p : Option Addr) (es : List Pt) (cp : Nat) (s r : Int) (w : World) (h : Has w p es) (hr : refI n es s = r) (h0 : ¬ r = 0) : Calls Try.prog 68 #[nv n p es.length cp, .int .i64 s] w fun e w' => e = .returned (.tuple #[tv nilS nilS nilS nilS, .int .i64 r]) ∧ Below w.heap.size w w' := by
  obtain ⟨W, hW, hb, a0, x0, hs⟩ := two_boxes35 w n p es.length cp
  have RF := hide (refusal36 n p es cp s W (h.later hb))
  rw [hr] at RF
  have HB := hide hb
  have HX := hide x0
  clear h hb a0 x0 hr
  go_enter Try.func68, Try.ntmps68
  go_wp2_with fail
  rw [← hW]
  clear hW
  refine RF.out.mono ?_
  rintro e w1 ⟨rfl, hb1⟩
  have HX1 := hide (box_later HX.out hb1)
  have HB1 := hide (below_step HB.out hb1)
  obtain ⟨c0, c1, c2, c3, f0, f1, f2, f3⟩ := box_cells HX1.out
  clear hb1 RF
  go_wp2
  exact bodyPost_ret (ret_tour2 Try.results68 rfl rfl (set_box35 HX1.out)) rfl ⟨rfl, below_set4 HB1.out (by omega) _ _ _ _⟩
end Go.Proofs.Ytobkejnlkjieoaa

namespace Go.Proofs.Ytobkejnlkjieoaa
open Go.RowKit Go.Sort
open Go

/-- A dive from one node. -/
theorem dOneSt_reach {es : List Pt} {m s : Nat} (hm : netB m es = true) (hs : s < m) : Reach es m s (dOneSt es m s) ∧ ∀ h u x : Nat, h < 2 * es.length → fromL es h = u → toL es h = x → 0 ≤ iat (dOneSt es m s).Fa u → Anc es (dOneSt es m s) u x ∨ Anc es (dOneSt es m s) x u := by
  obtain ⟨D, hD, f, hS⟩ := dOne_reach (es := es) hm hs
  have e : dOneSt es m s = D.st := hD.symm
  rw [e]
  have key : ∀ h u x : Nat, h < 2 * es.length → fromL es h = u → toL es h = x → 0 ≤ iat D.st.Fa u → 0 ≤ iat D.st.Fa x ∧ (Anc es D.st u x ∨ Anc es D.st x u) := by
    intro h u x h1 h2 h3 h4
    have un : u < m := by have := fromL_in hm h h1; omega
    have hG := f.fin u un h4 (by rw [hS]; simp)
    obtain ⟨q, hq, hqe⟩ := outL_mem (es := es) (h := 2 * es.length) (v := u) (k := h) h1 h2
    obtain ⟨_, w⟩ := f.gone u un q (by rw [hG]; omega)
    have := w h hqe
    rw [h3, Int.toNat_natCast] at this
    exact this
  exact ⟨⟨f.dk.ok, f.tree, fun h u x h1 h2 h3 h4 => (key h u x h1 h2 h3 h4).1, f.zero, f.first⟩, fun h u x h1 h2 h3 h4 => (key h u x h1 h2 h3 h4).2⟩
theorem depth14all (m : Nat) (p : Option Addr) (es : List Pt) (cp s : Nat) (w : World) (h : Has w p es) (hm : netB m es = true) (hs : s < m) : Calls Try.prog 68 #[nv m p es.length cp, .int .i64 s] w fun e w' => ∃ v gl, e = .returned (.tuple #[v, .int .i64 0]) ∧ TR w' w.heap.size m v (dOneSt es m s) (.slice (some ⟨gl, 0, none⟩) m m) ∧ IRow w' w.heap.size gl m (lwN es (dOneSt es m s) m (dOneSt es m s).O.length) ∧ Below w.heap.size w w' := by
  obtain ⟨r, _⟩ := dOneSt_reach hm hs
  exact depth14 m p es cp s w h hm hs (lows41 m p es cp _ hm r.ok r.tree r.first.1)
end Go.Proofs.Ytobkejnlkjieoaa
