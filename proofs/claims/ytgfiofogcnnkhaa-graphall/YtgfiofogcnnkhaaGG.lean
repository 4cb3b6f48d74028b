/- AddEdge; an edge's ends; setEnd. -/
import Derived.Test.YtgfiofogcnnkhaaGF
namespace Go.Proofs.Ytgfiofogcnnkhaa
open Go.RowKit Go.Sort
open Go

def addEe (G : Gr) (u v : Int) : Int := if u ∈ G.ns ∧ v ∈ G.ns then (if 3072 ≤ G.es.length then 3 else 0) else 2
def addE (G : Gr) (u v : Int) : Gr := if addEe G u v = 0 then G.layE u v else G
def addEv (G : Gr) (u v : Int) : Value := if addEe G u v = 0 then .tuple #[.int .i64 G.ne, .int .i64 0] else .tuple #[.int .i64 0, .int .i64 (addEe G u v)]
set_option maxHeartbeats 4000000 in
theorem addEdge24 (b : Nat) (s : GV) (G : Gr) (u v : Int) (w : World) (h : GAt w b s G) (hl : G.dn.length ≤ 5000000) (hm : G.ms.length ≤ 64) (hn : G.ns.length ≤ 1024) (hu : Up G.ns) (he : G.es.length ≤ 3072) (h0 : 0 ≤ G.ne) (h1 : G.ne ≤ 1000000000) : Calls Try.prog 24 #[ptr b, .int .i64 u, .int .i64 v] w (Turns w b s (addEv G u v) (addE G u v)) := by
  have A := none50 b s G w h
  have B := edgesFull53 b s G w h he
  have C := hide (layEdge35 b s G u v w h hl hm (by omega) h0 h1)
  have X := hasNode66 b s G u w h (by omega) hu
  have Y := hasNode66 b s G v w h (by omega) hu
  have H := hide h
  clear h hu
  by_cases hx : u ∈ G.ns
  · rw [decide_eq_true hx] at X
    by_cases hy : v ∈ G.ns
    · rw [decide_eq_true hy] at Y
      by_cases hf : 3072 ≤ G.es.length
      · have e0 : addEe G u v = 3 := by unfold addEe; rw [if_pos ⟨hx, hy⟩, if_pos hf]
        have e1 : addE G u v = G := by unfold addE; rw [e0]; rfl
        have e2 : addEv G u v = .tuple #[.int .i64 0, .int .i64 3] := by unfold addEv; rw [e0]; rfl
        rw [e1, e2]
        rw [decide_eq_true hf] at B
        clear e0 e1 e2 hx hy
        go_enter Try.func24, Try.ntmps24
        go_wp2_with (first | (go_at_call 50; refine A.mono ?_; rintro e w' ⟨rfl, rfl⟩) | (go_at_call 66; first | (with_reducible refine X.mono ?_; rintro e w' ⟨rfl, rfl⟩) | (with_reducible refine Y.mono ?_; rintro e w' ⟨rfl, rfl⟩)) | (go_at_call 53; refine B.mono ?_; rintro e w' ⟨rfl, rfl⟩))
        go_ret2
        exact ⟨rfl, s, H.out, GFr.of_below (Below.refl _ _)⟩
      · have e0 : addEe G u v = 0 := by unfold addEe; rw [if_pos ⟨hx, hy⟩, if_neg hf]
        have e1 : addE G u v = G.layE u v := by unfold addE; rw [e0]; rfl
        have e2 : addEv G u v = .tuple #[.int .i64 G.ne, .int .i64 0] := by unfold addEv; rw [e0]; rfl
        rw [e1, e2]
        rw [decide_eq_false hf] at B
        clear e0 e1 e2 hx hy
        go_enter Try.func24, Try.ntmps24
        go_wp2_with (first | (go_at_call 50; refine A.mono ?_; rintro e w' ⟨rfl, rfl⟩) | (go_at_call 66; first | (with_reducible refine X.mono ?_; rintro e w' ⟨rfl, rfl⟩) | (with_reducible refine Y.mono ?_; rintro e w' ⟨rfl, rfl⟩)) | (go_at_call 53; refine B.mono ?_; rintro e w' ⟨rfl, rfl⟩) | (go_at_call 35; refine C.out.mono ?_; rintro e w' ⟨rfl, s', g', r'⟩; have H1 := hide g'; have H2 := hide r'; clear g' r'))
        go_ret2
        exact ⟨rfl, _, H1.out, H2.out⟩
    · have e0 : addEe G u v = 2 := by unfold addEe; rw [if_neg (fun k => hy k.2)]
      have e1 : addE G u v = G := by unfold addE; rw [e0]; rfl
      have e2 : addEv G u v = .tuple #[.int .i64 0, .int .i64 2] := by unfold addEv; rw [e0]; rfl
      rw [e1, e2]
      rw [decide_eq_false hy] at Y
      clear e0 e1 e2 hx hy
      go_enter Try.func24, Try.ntmps24
      go_wp2_with (first | (go_at_call 50; refine A.mono ?_; rintro e w' ⟨rfl, rfl⟩) | (go_at_call 66; first | (with_reducible refine X.mono ?_; rintro e w' ⟨rfl, rfl⟩) | (with_reducible refine Y.mono ?_; rintro e w' ⟨rfl, rfl⟩)))
      go_ret2
      exact ⟨rfl, s, H.out, GFr.of_below (Below.refl _ _)⟩
  · have e0 : addEe G u v = 2 := by unfold addEe; rw [if_neg (fun k => hx k.1)]
    have e1 : addE G u v = G := by unfold addE; rw [e0]; rfl
    have e2 : addEv G u v = .tuple #[.int .i64 0, .int .i64 2] := by unfold addEv; rw [e0]; rfl
    rw [e1, e2]
    rw [decide_eq_false hx] at X
    clear e0 e1 e2 hx
    go_enter Try.func24, Try.ntmps24
    go_wp2_with (first | (go_at_call 50; refine A.mono ?_; rintro e w' ⟨rfl, rfl⟩) | (go_at_call 66; (with_reducible refine X.mono ?_; rintro e w' ⟨rfl, rfl⟩)))
    go_ret2
    exact ⟨rfl, s, H.out, GFr.of_below (Below.refl _ _)⟩
theorem touches86 (x : Ed) (v : Int) (w : World) : Calls Try.prog 86 #[ev x, .int .i64 v] w fun e w' => e = .returned (.bool (decide (x.a = v ∨ x.b = v))) ∧ Below w.heap.size w w' := by
  unfold ev
  by_cases h1 : x.a = v
  · have h1' : (x.a == v) = true := by simp [h1]
    rw [decide_eq_true (Or.inl h1)]
    clear h1
    go_enter Try.func86, Try.ntmps86
    go_wp2
    go_ret
    exact ⟨rfl, by go_grown⟩
  · have h1' : (x.a == v) = false := by simp [h1]
    rw [show decide (x.a = v ∨ x.b = v) = (x.b == v) by simp [h1, BEq.beq]]
    clear h1
    go_enter Try.func86, Try.ntmps86
    go_wp2
    go_ret
    exact ⟨rfl, by go_grown⟩
theorem isLoop87 (x : Ed) (w : World) : Calls Try.prog 87 #[ev x] w fun e w' => e = .returned (.bool (decide (x.a = x.b))) ∧ Below w.heap.size w w' := by
  unfold ev
  go_enter Try.func87, Try.ntmps87
  go_wp2
  go_ret
  exact ⟨retB (by simp), by go_grown⟩
def Ed.side (x : Ed) (v : Int) : Nat := if x.a = v then 0 else 1
def Ed.far (x : Ed) (v : Int) : Int := if x.a = v then x.b else x.a
theorem side58 (x : Ed) (v : Int) (w : World) : Calls Try.prog 58 #[ev x, .int .i64 v] w fun e w' => e = .returned (.int .i64 (x.side v)) ∧ Below w.heap.size w w' := by
  unfold ev Ed.side
  by_cases h1 : x.a = v
  · rw [if_pos h1]
    have h1' : (x.a == v) = true := by simp [h1]
    clear h1
    go_enter Try.func58, Try.ntmps58
    go_wp2
    go_ret
    exact ⟨rfl, by go_grown⟩
  · rw [if_neg h1]
    have h1' : (x.a == v) = false := by simp [h1]
    clear h1
    go_enter Try.func58, Try.ntmps58
    go_wp2
    go_ret
    exact ⟨rfl, by go_grown⟩
end Go.Proofs.Ytgfiofogcnnkhaa
