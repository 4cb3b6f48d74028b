/- begun. -/
import Derived.Test.YtgfiofogcnnkhaaH5
namespace Go.Proofs.Ytgfiofogcnnkhaa
open Go.RowKit Go.Sort
open Go

/-- A graph of one's own, made since w0. -/
structure Mine (w0 w : World) (b : Nat) (s : GV) (G : Gr) : Prop where
  at_ : GAt w b s G
  below : Below w0.heap.size w0 w
  lie : ∀ k, GB b s k → w0.heap.size ≤ k
theorem Mine.turn {w0 w w' : World} {b : Nat} {s s' : GV} {G G' : Gr} (h : Mine w0 w b s G) (g : GAt w' b s' G') (r : GFr w w' b s s') : Mine w0 w' b s' G' := by
  have hs := h.below.size
  refine ⟨g, ?_, fun k hk => (r.lie k hk).elim (h.lie k) (fun h1 => by omega)⟩
  exact ⟨r.fr.os.trans h.below.os, r.fr.tape.trans h.below.tape, r.fr.output.trans h.below.output, Nat.le_trans hs r.fr.size, fun i hi => (r.fr.block i (by omega) (fun h1 => by have := h.lie i h1; omega)).trans (h.below.block i hi)⟩
theorem Mine.later {w0 w w' : World} {b : Nat} {s : GV} {G : Gr} (h : Mine w0 w b s G) (hb : Below w.heap.size w w') : Mine w0 w' b s G := ⟨h.at_.later hb, below_step h.below hb, h.lie⟩
def g1 : Gr := ⟨[1], [], 2, 1, [], 0, []⟩
def g2 : Gr := ⟨[1, 2], [], 3, 1, [], 0, []⟩
def g3 : Gr := ⟨[1, 2], [⟨1, 1, 2⟩], 3, 2, [], 0, []⟩
def g4 : Gr := ⟨[1, 2, 3], [⟨1, 1, 3⟩, ⟨2, 3, 2⟩], 4, 3, [], 0, []⟩
def g5 : Gr := ⟨[1, 2, 3], [⟨1, 1, 3⟩, ⟨2, 3, 2⟩], 4, 3, [(1, 0)], 1, []⟩
def g6 : Gr := ⟨[1, 2], [⟨1, 1, 2⟩], 4, 3, [(1, 0)], 1, [.se 0 1 3, .te 1 ⟨2, 3, 2⟩, .tn 2 3]⟩
def g7 : Gr := backG g6 1
theorem up12 : Up [1, 2] := by unfold Up; simp
theorem up123 : Up [1, 2, 3] := by unfold Up; simp
theorem c1 {b : Nat} {s : GV} {w : World} (h : GAt w b s G0) : Calls Try.prog 23 #[ptr b] w (Turns w b s (.tuple #[.int .i64 1, .int .i64 0]) g1) := addNode23 b s G0 w h (by decide) (by decide) (by decide) (by decide) (by decide)
theorem c2 {b : Nat} {s : GV} {w : World} (h : GAt w b s g1) : Calls Try.prog 23 #[ptr b] w (Turns w b s (.tuple #[.int .i64 2, .int .i64 0]) g2) := addNode23 b s g1 w h (by decide) (by decide) (by decide) (by decide) (by decide)
theorem c3 {b : Nat} {s : GV} {w : World} (h : GAt w b s g2) : Calls Try.prog 24 #[ptr b, .int .i64 1, .int .i64 2] w (Turns w b s (.tuple #[.int .i64 1, .int .i64 0]) g3) := addEdge24 b s g2 1 2 w h (by decide) (by decide) (by decide) up12 (by decide) (by decide) (by decide)
theorem c4 {b : Nat} {s : GV} {w : World} (h : GAt w b s g3) : Calls Try.prog 17 #[ptr b, .int .i64 1] w (Turns w b s (.tuple #[.int .i64 3, .int .i64 2, .int .i64 0]) g4) := split17 b s g3 1 w h (by decide) (by decide) (by decide) (by decide) (by unfold Up; simp [eids, g3]) (by decide) (by decide) (by decide) (by decide)
theorem c5 {b : Nat} {s : GV} {w : World} (h : GAt w b s g4) : Calls Try.prog 21 #[ptr b] w (Turns w b s (.int .i64 1) g5) := mark21 b s g4 w h (by decide) (by decide) (by decide)
theorem c6 {b : Nat} {s : GV} {w : World} (h : GAt w b s g5) : Calls Try.prog 18 #[ptr b, .int .i64 3] w (Turns w b s (.tuple #[.int .i64 1, .int .i64 0]) g6) := unsplit18 b s g5 3 w h (by decide) (by decide) (by decide) (by decide) up123
theorem c7 {b : Nat} {s : GV} {w : World} (h : GAt w b s g6) : Calls Try.prog 19 #[ptr b] w fun e w' => ∃ ge gi p c, e = .returned (.tuple #[nv 2 (some ⟨ge, 0, none⟩) 1 1, .slice p 2 c, .slice (some ⟨gi, 0, none⟩) 1 1]) ∧ Below w.heap.size w w' := (net19a b s g6 w h (by decide) (by decide) up12).mono (by
  rintro e w' ⟨ge, gi, p, c, rfl, _, _, _, hb⟩
  exact ⟨ge, gi, p, c, rfl, hb⟩)
theorem fit6 : ∀ k, k < 3 → g6.fit k := fun k hk => by
  have : k = 0 ∨ k = 1 ∨ k = 2 := by omega
  rcases this with rfl | rfl | rfl
  · exact ⟨(show 0 < 2 ∧ 1 < 2 by decide), by decide, by decide, by decide, by decide, by decide, by decide⟩
  · exact ⟨(show 1 ≤ 1 by decide), by decide, by decide, by decide, by decide, by decide, by decide⟩
  · exact ⟨(show 2 ≤ 2 by decide), by decide, by decide, by decide, by decide, by decide, by decide⟩
theorem c8 {b : Nat} {s : GV} {w : World} (h : GAt w b s g6) : Calls Try.prog 22 #[ptr b, .int .i64 1] w (Turns w b s (.int .i64 0) g7) := back22 b s g6 1 w h (by decide) (by decide) (fun _ => ⟨by decide, fun k _ hk => fit6 k hk⟩)
theorem eqlF (k : Nat) (w : World) : (binOp BinOp.eql 63 (.func (.func 94) #[] #[ptr k]) .nilFunc).run Try.prog w = .ok (.bool false) w := by kernel_rfl
set_option maxRecDepth 100000 in
set_option maxHeartbeats 8000000 in
theorem begun8 (w : World) : Calls Try.prog 8 #[] w fun e w' => e = .returned (.bool true) ∧ Below w.heap.size w w' := by
  have N := new31 w
  have EF := eqlF
  go_enter Try.func8, Try.ntmps8
  go_wp2_with (first
    | (go_at_call 31; refine N.mono ?_; rintro e w1 ⟨b, s, rfl, h1, h2, h3⟩; have HG := hide (show Mine w w1 b s G0 from ⟨h1, h2, h3⟩); clear h1 h2 h3)
    | (go_at_call 26; refine (edges26 _ _ G0 _ _ HG.out.at_ (by decide)).mono ?_; rintro e w2 ⟨kx, pp, cc, rfl, _, _, _, hb⟩; have HG := hide (HG.out.later hb); clear hb)
    | (go_at_call 23; (with_reducible refine (c1 HG.out.at_).mono ?_); rintro e w2 ⟨rfl, s2, h1, h2⟩; have HG := hide (HG.out.turn h1 h2); clear h1 h2)
    | (go_at_call 23; (with_reducible refine (c2 HG.out.at_).mono ?_); rintro e w2 ⟨rfl, s2, h1, h2⟩; have HG := hide (HG.out.turn h1 h2); clear h1 h2)
    | (go_at_call 24; refine (c3 HG.out.at_).mono ?_; rintro e w2 ⟨rfl, s2, h1, h2⟩; have HG := hide (HG.out.turn h1 h2); clear h1 h2)
    | (go_at_call 17; refine (c4 HG.out.at_).mono ?_; rintro e w2 ⟨rfl, s2, h1, h2⟩; have HG := hide (HG.out.turn h1 h2); clear h1 h2)
    | (go_at_call 21; refine (c5 HG.out.at_).mono ?_; rintro e w2 ⟨rfl, s2, h1, h2⟩; have HG := hide (HG.out.turn h1 h2); clear h1 h2)
    | (go_at_call 18; refine (c6 HG.out.at_).mono ?_; rintro e w2 ⟨rfl, s2, h1, h2⟩; have HG := hide (HG.out.turn h1 h2); clear h1 h2)
    | (go_at_call 19; refine (c7 HG.out.at_).mono ?_; rintro e w2 ⟨ge, gi, pp, cc, rfl, hb⟩; have HG := hide (HG.out.later hb); clear hb)
    | (go_at_call 22; refine Calls.mono (c8 (HG.out.later (by go_grown)).at_) ?_; rintro e w3 ⟨rfl, s3, h1, h2⟩; have HX := hide (Mine.turn (HG.out.later (by go_grown)) h1 h2); clear h1 h2))
  go_ret
  exact ⟨rfl, HX.out.below⟩
end Go.Proofs.Ytgfiofogcnnkhaa
