/- plays: one call on both graphs. -/
import Derived.Test.YtgfiofogcnnkhaaRF
namespace Go.Proofs.Ytgfiofogcnnkhaa
open Go.RowKit Go.Sort
open Go

/-- What plays answers and leaves. -/
def PPost (w0 : World) (kr b br : Nat) (G' R' : Gr) (M' : List (Int × Gr)) (L' : Int) (mk' : List Int) (P : Prop) (e : Ending) (w' : World) : Prop := ∃ r s V vk, e = .returned (.bool r) ∧ (P → r = true) ∧ Run w0 w' kr b br s V G' R' M' L' vk mk'
abbrev opv (k a bb c : Int) : Value := .agg #[.int .i64 k, .int .i64 a, .int .i64 bb, .int .i64 c]

set_option maxRecDepth 100000 in
set_option maxHeartbeats 16000000 in
theorem play4 (kr b br : Nat) (s : GV) (V : RV) (G G' R R' : Gr) (M : List (Int × Gr)) (L : Int) (vk : Value) (mk : List Int) (a bb c x x' : Int) (w0 w : World) (h : Run w0 w kr b br s V G R M L vk mk)
    (CA : ∀ U s, GAt U b s G → Calls Try.prog 27 #[ptr b, .int .i64 a] U (Turns U b s (.int .i64 x) G'))
    (CB : ∀ U V, RAt U br V R M L → Calls Try.prog 39 #[ptr br, .int .i64 a] U (RTurns U br V (.int .i64 x') R' M L)) :
    Calls Try.prog 14 #[ptr kr, opv 4 a bb c] w (PPost w0 kr b br G' R' M L mk (x = x')) := by
  obtain ⟨U, hU⟩ : ∃ U, U = w.alloc (.cells #[.int .i64 4, .int .i64 a, .int .i64 bb, .int .i64 c] 43) := ⟨_, rfl⟩
  have hbU : Below w.heap.size w U := by rw [hU]; go_grown
  have HO : Hid (∀ X, Frame U X (fun i => GB b s i) → X.cell? ⟨w.heap.size, 1, none⟩ = some (.int .i64 a) ∧ X.cell? ⟨w.heap.size, 2, none⟩ = some (.int .i64 bb) ∧ X.cell? ⟨w.heap.size, 3, none⟩ = some (.int .i64 c)) := fun X hX => by
    have hn : ¬ GB b s w.heap.size := fun hg => by have := h.two.ga.blt hg; omega
    refine ⟨hX.cell ?_ hn, hX.cell ?_ hn, hX.cell ?_ hn⟩ <;> (rw [hU]; go_cell)
  have HN : Hid (¬ RB br V w.heap.size) := fun hg => by have := h.two.ra.blt hg; omega
  have HR := hide (h.later hbU)
  have HC := hide HR.out.cells
  have HA := hide (fun X (hX : Below U.heap.size U X) => CA X s (HR.out.later hX).two.ga)
  obtain ⟨kx, hkx⟩ : ∃ kx, w.heap.size = kx := ⟨_, rfl⟩
  rw [hkx] at HO
  rw [hkx] at HN
  clear h CA
  go_enter Try.func14, Try.ntmps14
  go_upto_region 15 with fail
  rw [← hU]
  try rw [hkx]
  clear hU hbU hkx
  have HS : Hid (∀ X, Below U.heap.size U X → X.cell? ⟨kr, 0, none⟩ = some (ptr b) ∧ X.cell? ⟨kr, 1, none⟩ = some (ptr br) ∧ X.cell? ⟨kx, 1, none⟩ = some (.int .i64 a)) := fun X hX => ⟨later hX HC.out.1, later hX HC.out.2.1, (HO.out X (Frame.of_below hX _)).1⟩
  by_cases hx : x = x'
  · have dx : (x == x') = true := by simpa using hx
    have HDx := hide hx
    clear hx
    go_region_held3 (fun X => X.cell? ⟨kr, 0, none⟩ = some (ptr b) ∧ X.cell? ⟨kr, 1, none⟩ = some (ptr br) ∧ X.cell? ⟨kx, 1, none⟩ = some (.int .i64 a)) (first | exact HS.out _ (Below.refl _ _) | exact HS.out _ (below_drew _) | exact HW1.out | exact HW2.out)
      (first | (go_at_call 27; refine Calls.mono (HA.out _ (below_drew _)) ?_; rintro e w1 ⟨rfl, s1, g1, r1⟩; have HR1 := hide (Run.onA (HR.out.later (below_drew _)) g1 r1); have HF1 := hide ((Frame.of_below (below_drew _) _).trans r1.fr); have HW1 : Hid (w1.cell? ⟨kr, 0, none⟩ = some (ptr b) ∧ w1.cell? ⟨kr, 1, none⟩ = some (ptr br) ∧ w1.cell? ⟨kx, 1, none⟩ = some (.int .i64 a)) := ⟨HR1.out.cells.1, HR1.out.cells.2.1, (HO.out _ HF1.out).1⟩; clear g1 r1) | (go_at_call 39; refine Calls.mono (CB _ _ HR1.out.two.ra) ?_; rintro e w2 ⟨rfl, V2, g2, r2⟩; have HR2 := hide (HR1.out.onB g2 r2); have HW2 : Hid (w2.cell? ⟨kr, 0, none⟩ = some (ptr b) ∧ w2.cell? ⟨kr, 1, none⟩ = some (ptr br) ∧ w2.cell? ⟨kx, 1, none⟩ = some (.int .i64 a)) := ⟨HR2.out.cells.1, HR2.out.cells.2.1, r2.fr.cell HW1.out.2.2 (fun hg => HN.out hg)⟩; clear g2 r2))
    rename_i hHeld
    clear hHeld
    go_wp2_with fail
    go_ret
    exact ⟨_, _, _, _, rfl, fun _ => rfl, HR2.out⟩
  · have dx : (x == x') = false := by simpa using hx
    have HDx := hide hx
    clear hx
    go_region_held3 (fun X => X.cell? ⟨kr, 0, none⟩ = some (ptr b) ∧ X.cell? ⟨kr, 1, none⟩ = some (ptr br) ∧ X.cell? ⟨kx, 1, none⟩ = some (.int .i64 a)) (first | exact HS.out _ (Below.refl _ _) | exact HS.out _ (below_drew _) | exact HW1.out | exact HW2.out)
      (first | (go_at_call 27; refine Calls.mono (HA.out _ (below_drew _)) ?_; rintro e w1 ⟨rfl, s1, g1, r1⟩; have HR1 := hide (Run.onA (HR.out.later (below_drew _)) g1 r1); have HF1 := hide ((Frame.of_below (below_drew _) _).trans r1.fr); have HW1 : Hid (w1.cell? ⟨kr, 0, none⟩ = some (ptr b) ∧ w1.cell? ⟨kr, 1, none⟩ = some (ptr br) ∧ w1.cell? ⟨kx, 1, none⟩ = some (.int .i64 a)) := ⟨HR1.out.cells.1, HR1.out.cells.2.1, (HO.out _ HF1.out).1⟩; clear g1 r1) | (go_at_call 39; refine Calls.mono (CB _ _ HR1.out.two.ra) ?_; rintro e w2 ⟨rfl, V2, g2, r2⟩; have HR2 := hide (HR1.out.onB g2 r2); have HW2 : Hid (w2.cell? ⟨kr, 0, none⟩ = some (ptr b) ∧ w2.cell? ⟨kr, 1, none⟩ = some (ptr br) ∧ w2.cell? ⟨kx, 1, none⟩ = some (.int .i64 a)) := ⟨HR2.out.cells.1, HR2.out.cells.2.1, r2.fr.cell HW1.out.2.2 (fun hg => HN.out hg)⟩; clear g2 r2))
    rename_i hHeld
    clear hHeld
    go_wp2_with fail
    go_ret
    exact ⟨_, _, _, _, rfl, fun hp => absurd hp HDx.out, HR2.out⟩
set_option maxRecDepth 100000 in
set_option maxHeartbeats 16000000 in
theorem play10 (kr b br : Nat) (s : GV) (V : RV) (G G' R : Gr) (M M' : List (Int × Gr)) (L L' : Int) (vk : Value) (mk : List Int) (a bb c x x' : Int) (w0 w : World) (h : Run w0 w kr b br s V G R M L vk mk) (hmk : mk.length ≤ 90000)
    (CA : ∀ U s, GAt U b s G → Calls Try.prog 21 #[ptr b] U (Turns U b s (.int .i64 x) G'))
    (CB : ∀ U V, RAt U br V R M L → Calls Try.prog 45 #[ptr br] U (RTurns U br V (.int .i64 x') R M' L')) :
    Calls Try.prog 14 #[ptr kr, opv 10 a bb c] w (PPost w0 kr b br G' R M' L' (mk ++ [x]) (x = x')) := by
  obtain ⟨U, hU⟩ : ∃ U, U = w.alloc (.cells #[.int .i64 10, .int .i64 a, .int .i64 bb, .int .i64 c] 43) := ⟨_, rfl⟩
  have hbU : Below w.heap.size w U := by rw [hU]; go_grown
  have HR := hide (h.later hbU)
  have HC := hide HR.out.cells
  have HA := hide (CA U s HR.out.two.ga)
  obtain ⟨kx, hkx⟩ : ∃ kx, w.heap.size = kx := ⟨_, rfl⟩
  clear h CA
  go_enter Try.func14, Try.ntmps14
  go_upto_region 33 with fail
  rw [← hU]
  try rw [hkx]
  clear hU hbU hkx
  have q0 := HC.out.1
  go_upto_region 34 with (go_at_call 21; refine Calls.mono HA.out ?_; rintro e w1 ⟨rfl, s1, g1, r1⟩; have HR1 := hide (Run.onA HR.out g1 r1); clear g1 r1)
  clear q0 HA HC HR
  obtain ⟨pk, ck, rfl, _⟩ := HR1.out.mks.form
  obtain ⟨X, hX⟩ : ∃ X, X = w1.alloc (.cells #[.int .i64 x] 3) := ⟨_, rfl⟩
  have hbX : Below w1.heap.size w1 X := by rw [hX]; go_grown
  obtain ⟨v2, D, e1, o2, gr, at2⟩ := append_int (x := x) (HR1.out.mks.later hbX) (by rw [hX]; go_cell : X.cell? ⟨w1.heap.size, 0, none⟩ = some (.int .i64 x)) (by omega) hmk
  obtain ⟨p2, c2, rfl, _⟩ := o2.form
  have hlen : (mk ++ [x]).length = mk.length + 1 := by simp
  rw [hlen] at e1 o2 at2
  have hF : Frame w1 D (fun i => (Value.slice pk mk.length ck).ownBlock = some i) := (Frame.of_below hbX _).trans (Frame.grown gr (fun i e => e))
  have hlie : ∀ i, (Value.slice p2 (mk.length + 1) c2).ownBlock = some i → (Value.slice pk mk.length ck).ownBlock = some i ∨ w1.heap.size ≤ i := fun i hi => by
    rcases at2 with e | e
    · left; rw [← e]; exact hi
    · right
      rw [e] at hi
      injection hi with hi
      have := hbX.size
      omega
  obtain ⟨s2, V2, R2⟩ := HR1.out.onM hF o2 hlie
  obtain ⟨_, _, k2, k3, _, k5⟩ := HR1.out.cells
  have hne : ¬ (Value.slice pk mk.length ck).ownBlock = some kr := fun e => apart HR1.out.mks HR1.out.box (by decide) e rfl
  have z2 : D.cell? ⟨kr, 2, none⟩ = some (.slice pk mk.length ck) := hF.cell k2 hne
  have zf : D.frozen? ⟨kr, 2, none⟩ = false := by
    rw [World.frozen?_of_block (hF.block kr k5 hne)]; exact k3
  obtain ⟨Y, hY⟩ : ∃ Y, Y = D.setCell ⟨kr, 2, none⟩ (.slice p2 (mk.length + 1) c2) := ⟨_, rfl⟩
  rw [← hY] at R2
  have HR2 := hide R2
  rw [hX] at e1
  have hkn : kr ≠ w1.heap.size := by omega
  clear hlen R2 hF hlie at2 gr o2 hbX hX k3 hne HR1 hmk
  go_upto_region 35 with (at_builtin; refine wpList_run_append rfl (.tmp 291) (.tmp 293) 38 rfl 38 rfl _ _ _ D rfl rfl e1 ?_)
  rw [← hY]
  clear hY e1 z2 zf k2
  have q1 := HR2.out.cells.2.1
  by_cases hx : x = x'
  · have dx : (x == x') = true := by simpa using hx
    have HDx := hide hx
    clear hx
    go_wp2_with (go_at_call 45; refine Calls.mono (CB _ _ HR2.out.two.ra) ?_; rintro e w3 ⟨rfl, V3, g3, r3⟩; have HR3 := hide (HR2.out.onB g3 r3); clear g3 r3)
    go_ret
    exact ⟨_, _, _, _, rfl, fun _ => rfl, HR3.out⟩
  · have dx : (x == x') = false := by simpa using hx
    have HDx := hide hx
    clear hx
    go_wp2_with (go_at_call 45; refine Calls.mono (CB _ _ HR2.out.two.ra) ?_; rintro e w3 ⟨rfl, V3, g3, r3⟩; have HR3 := hide (HR2.out.onB g3 r3); clear g3 r3)
    go_ret
    exact ⟨_, _, _, _, rfl, fun hp => absurd hp HDx.out, HR3.out⟩

set_option maxRecDepth 100000 in
set_option maxHeartbeats 16000000 in
theorem play0 (kr b br : Nat) (s : GV) (V : RV) (G R : Gr) (M : List (Int × Gr)) (L : Int) (vk : Value) (mk : List Int) (k a bb c : Int) (w0 w : World) (h : Run w0 w kr b br s V G R M L vk mk) (hk : ¬ (1 ≤ k ∧ k ≤ 12)) :
    Calls Try.prog 14 #[ptr kr, opv k a bb c] w (PPost w0 kr b br G R M L mk True) := by
  have HR := hide (h.later (show Below w.heap.size w (w.alloc (.cells #[.int .i64 k, .int .i64 a, .int .i64 bb, .int .i64 c] 43)) from by go_grown))
  have b1 : (k == 1) = false := by rw [beq_eq_false_iff_ne]; omega
  have b2 : (k == 2) = false := by rw [beq_eq_false_iff_ne]; omega
  have b3 : (k == 3) = false := by rw [beq_eq_false_iff_ne]; omega
  have b4 : (k == 4) = false := by rw [beq_eq_false_iff_ne]; omega
  have b5 : (k == 5) = false := by rw [beq_eq_false_iff_ne]; omega
  have b6 : (k == 6) = false := by rw [beq_eq_false_iff_ne]; omega
  have b7 : (k == 7) = false := by rw [beq_eq_false_iff_ne]; omega
  have b8 : (k == 8) = false := by rw [beq_eq_false_iff_ne]; omega
  have b9 : (k == 9) = false := by rw [beq_eq_false_iff_ne]; omega
  have b10 : (k == 10) = false := by rw [beq_eq_false_iff_ne]; omega
  have b11 : (k == 11) = false := by rw [beq_eq_false_iff_ne]; omega
  have b12 : (k == 12) = false := by rw [beq_eq_false_iff_ne]; omega
  clear h hk
  go_enter Try.func14, Try.ntmps14
  go_wp2_with fail
  go_ret
  exact ⟨_, _, _, _, rfl, fun _ => rfl, HR.out⟩

set_option maxRecDepth 100000 in
set_option maxHeartbeats 16000000 in
theorem play1 (kr b br : Nat) (s : GV) (V : RV) (G G' R R' : Gr) (M : List (Int × Gr)) (L : Int) (vk : Value) (mk : List Int) (a bb c x y x' y' : Int) (w0 w : World) (h : Run w0 w kr b br s V G R M L vk mk)
    (CA : ∀ U s, GAt U b s G → Calls Try.prog 23 #[ptr b] U (Turns U b s (.tuple #[.int .i64 x, .int .i64 y]) G'))
    (CB : ∀ U V, RAt U br V R M L → Calls Try.prog 36 #[ptr br] U (RTurns U br V (.tuple #[.int .i64 x', .int .i64 y']) R' M L)) :
    Calls Try.prog 14 #[ptr kr, opv 1 a bb c] w (PPost w0 kr b br G' R' M L mk (x = x' ∧ y = y')) := by
  obtain ⟨U, hU⟩ : ∃ U, U = w.alloc (.cells #[.int .i64 1, .int .i64 a, .int .i64 bb, .int .i64 c] 43) := ⟨_, rfl⟩
  have hbU : Below w.heap.size w U := by rw [hU]; go_grown
  have HO : Hid (∀ X, Frame U X (fun i => GB b s i) → X.cell? ⟨w.heap.size, 1, none⟩ = some (.int .i64 a) ∧ X.cell? ⟨w.heap.size, 2, none⟩ = some (.int .i64 bb) ∧ X.cell? ⟨w.heap.size, 3, none⟩ = some (.int .i64 c)) := fun X hX => by
    have hn : ¬ GB b s w.heap.size := fun hg => by have := h.two.ga.blt hg; omega
    refine ⟨hX.cell ?_ hn, hX.cell ?_ hn, hX.cell ?_ hn⟩ <;> (rw [hU]; go_cell)
  have HN : Hid (¬ RB br V w.heap.size) := fun hg => by have := h.two.ra.blt hg; omega
  have HR := hide (h.later hbU)
  have HC := hide HR.out.cells
  have HA := hide (fun X (hX : Below U.heap.size U X) => CA X s (HR.out.later hX).two.ga)
  obtain ⟨kx, hkx⟩ : ∃ kx, w.heap.size = kx := ⟨_, rfl⟩
  rw [hkx] at HO
  rw [hkx] at HN
  clear h CA
  go_enter Try.func14, Try.ntmps14
  go_upto_region 3 with fail
  rw [← hU]
  try rw [hkx]
  clear hU hbU hkx
  have q0 := HC.out.1
  go_upto_region 4 with (go_at_call 23; refine Calls.mono (HA.out _ (Below.refl _ _)) ?_; rintro e w1 ⟨rfl, s1, g1, r1⟩; have HR1 := hide (Run.onA (HR.out.later (Below.refl _ _)) g1 r1); have HF1 := hide ((Frame.of_below (Below.refl _ _) _).trans r1.fr); clear g1 r1)
  have q1 := HR1.out.cells.2.1
  clear q0
  go_upto_region 5 with (go_at_call 36; refine Calls.mono (CB _ _ HR1.out.two.ra) ?_; rintro e w2 ⟨rfl, V2, g2, r2⟩; have HR2 := hide (HR1.out.onB g2 r2); clear g2 r2)
  clear q1
  clear HA CB HO HC HR HF1
  by_cases hx : x = x'
  · have dx : (x == x') = true := by simpa using hx
    have HDx := hide hx
    clear hx
    by_cases hy : y = y'
    · have dy : (y == y') = true := by simpa using hy
      have HDy := hide hy
      clear hy
      go_wp2_with fail
      go_ret
      exact ⟨_, _, _, _, rfl, fun _ => rfl, HR2.out⟩
    · have dy : (y == y') = false := by simpa using hy
      have HDy := hide hy
      clear hy
      go_wp2_with fail
      go_ret
      exact ⟨_, _, _, _, rfl, fun hp => absurd hp.2 HDy.out, HR2.out⟩
  · have dx : (x == x') = false := by simpa using hx
    have HDx := hide hx
    clear hx
    go_wp2_with fail
    go_ret
    exact ⟨_, _, _, _, rfl, fun hp => absurd hp.1 HDx.out, HR2.out⟩
set_option maxRecDepth 100000 in
set_option maxHeartbeats 16000000 in
theorem play2 (kr b br : Nat) (s : GV) (V : RV) (G G' R R' : Gr) (M : List (Int × Gr)) (L : Int) (vk : Value) (mk : List Int) (a bb c x y x' y' : Int) (w0 w : World) (h : Run w0 w kr b br s V G R M L vk mk)
    (CA : ∀ U s, GAt U b s G → Calls Try.prog 24 #[ptr b, .int .i64 a, .int .i64 bb] U (Turns U b s (.tuple #[.int .i64 x, .int .i64 y]) G'))
    (CB : ∀ U V, RAt U br V R M L → Calls Try.prog 37 #[ptr br, .int .i64 a, .int .i64 bb] U (RTurns U br V (.tuple #[.int .i64 x', .int .i64 y']) R' M L)) :
    Calls Try.prog 14 #[ptr kr, opv 2 a bb c] w (PPost w0 kr b br G' R' M L mk (x = x' ∧ y = y')) := by
  obtain ⟨U, hU⟩ : ∃ U, U = w.alloc (.cells #[.int .i64 2, .int .i64 a, .int .i64 bb, .int .i64 c] 43) := ⟨_, rfl⟩
  have hbU : Below w.heap.size w U := by rw [hU]; go_grown
  have HO : Hid (∀ X, Frame U X (fun i => GB b s i) → X.cell? ⟨w.heap.size, 1, none⟩ = some (.int .i64 a) ∧ X.cell? ⟨w.heap.size, 2, none⟩ = some (.int .i64 bb) ∧ X.cell? ⟨w.heap.size, 3, none⟩ = some (.int .i64 c)) := fun X hX => by
    have hn : ¬ GB b s w.heap.size := fun hg => by have := h.two.ga.blt hg; omega
    refine ⟨hX.cell ?_ hn, hX.cell ?_ hn, hX.cell ?_ hn⟩ <;> (rw [hU]; go_cell)
  have HN : Hid (¬ RB br V w.heap.size) := fun hg => by have := h.two.ra.blt hg; omega
  have HR := hide (h.later hbU)
  have HC := hide HR.out.cells
  have HA := hide (fun X (hX : Below U.heap.size U X) => CA X s (HR.out.later hX).two.ga)
  obtain ⟨kx, hkx⟩ : ∃ kx, w.heap.size = kx := ⟨_, rfl⟩
  rw [hkx] at HO
  rw [hkx] at HN
  clear h CA
  go_enter Try.func14, Try.ntmps14
  go_upto_region 7 with fail
  rw [← hU]
  try rw [hkx]
  clear hU hbU hkx
  have HS : Hid (∀ X, Below U.heap.size U X → X.cell? ⟨kr, 0, none⟩ = some (ptr b) ∧ X.cell? ⟨kx, 1, none⟩ = some (.int .i64 a) ∧ X.cell? ⟨kx, 2, none⟩ = some (.int .i64 bb)) := fun X hX => ⟨later hX HC.out.1, (HO.out X (Frame.of_below hX _)).1, (HO.out X (Frame.of_below hX _)).2.1⟩
  go_region_held3 (fun X => X.cell? ⟨kr, 0, none⟩ = some (ptr b) ∧ X.cell? ⟨kx, 1, none⟩ = some (.int .i64 a) ∧ X.cell? ⟨kx, 2, none⟩ = some (.int .i64 bb)) (first | exact HS.out _ (Below.refl _ _) | exact HS.out _ (below_drew _) | exact HW1.out) (first | (go_at_call 24; refine Calls.mono (HA.out _ (below_drew _)) ?_; rintro e w1 ⟨rfl, s1, g1, r1⟩; have HR1 := hide (Run.onA (HR.out.later (below_drew _)) g1 r1); have HF1 := hide ((Frame.of_below (below_drew _) _).trans r1.fr); have HW1 : Hid (w1.cell? ⟨kr, 0, none⟩ = some (ptr b) ∧ w1.cell? ⟨kx, 1, none⟩ = some (.int .i64 a) ∧ w1.cell? ⟨kx, 2, none⟩ = some (.int .i64 bb)) := ⟨HR1.out.cells.1, (HO.out _ HF1.out).1, (HO.out _ HF1.out).2.1⟩; clear g1 r1))
  rename_i hHeld
  clear hHeld HS
  have HS : Hid (∀ X, Below w1.heap.size w1 X → X.cell? ⟨kr, 1, none⟩ = some (ptr br) ∧ X.cell? ⟨kx, 1, none⟩ = some (.int .i64 a) ∧ X.cell? ⟨kx, 2, none⟩ = some (.int .i64 bb)) := fun X hX => ⟨later hX HR1.out.cells.2.1, later hX (HO.out _ HF1.out).1, later hX (HO.out _ HF1.out).2.1⟩
  go_wp2_with fail
  go_region_held3 (fun X => X.cell? ⟨kr, 1, none⟩ = some (ptr br) ∧ X.cell? ⟨kx, 1, none⟩ = some (.int .i64 a) ∧ X.cell? ⟨kx, 2, none⟩ = some (.int .i64 bb)) (first | exact HS.out _ (Below.refl _ _) | exact HS.out _ (below_drew _) | exact HW2.out) (first | (go_at_call 37; refine Calls.mono (CB _ _ (HR1.out.later (below_drew _)).two.ra) ?_; rintro e w2 ⟨rfl, V2, g2, r2⟩; have HR2 := hide ((HR1.out.later (below_drew _)).onB g2 r2); have HW2 : Hid (w2.cell? ⟨kr, 1, none⟩ = some (ptr br) ∧ w2.cell? ⟨kx, 1, none⟩ = some (.int .i64 a) ∧ w2.cell? ⟨kx, 2, none⟩ = some (.int .i64 bb)) := ⟨HR2.out.cells.2.1, r2.fr.cell (HS.out _ (below_drew _)).2.1 (fun hg => HN.out hg), r2.fr.cell (HS.out _ (below_drew _)).2.2 (fun hg => HN.out hg)⟩; clear g2 r2))
  rename_i hHeld
  clear hHeld HS
  clear HA CB HO HC HR HF1
  by_cases hx : x = x'
  · have dx : (x == x') = true := by simpa using hx
    have HDx := hide hx
    clear hx
    by_cases hy : y = y'
    · have dy : (y == y') = true := by simpa using hy
      have HDy := hide hy
      clear hy
      go_wp2_with fail
      go_ret
      exact ⟨_, _, _, _, rfl, fun _ => rfl, HR2.out⟩
    · have dy : (y == y') = false := by simpa using hy
      have HDy := hide hy
      clear hy
      go_wp2_with fail
      go_ret
      exact ⟨_, _, _, _, rfl, fun hp => absurd hp.2 HDy.out, HR2.out⟩
  · have dx : (x == x') = false := by simpa using hx
    have HDx := hide hx
    clear hx
    go_wp2_with fail
    go_ret
    exact ⟨_, _, _, _, rfl, fun hp => absurd hp.1 HDx.out, HR2.out⟩
set_option maxRecDepth 100000 in
set_option maxHeartbeats 16000000 in
theorem play3 (kr b br : Nat) (s : GV) (V : RV) (G G' R R' : Gr) (M : List (Int × Gr)) (L : Int) (vk : Value) (mk : List Int) (a bb c x y x' y' : Int) (w0 w : World) (h : Run w0 w kr b br s V G R M L vk mk)
    (CA : ∀ U s, GAt U b s G → Calls Try.prog 25 #[ptr b, .int .i64 a] U (Turns U b s (.tuple #[.int .i64 x, .int .i64 y]) G'))
    (CB : ∀ U V, RAt U br V R M L → Calls Try.prog 38 #[ptr br, .int .i64 a] U (RTurns U br V (.tuple #[.int .i64 x', .int .i64 y']) R' M L)) :
    Calls Try.prog 14 #[ptr kr, opv 3 a bb c] w (PPost w0 kr b br G' R' M L mk (x = x' ∧ y = y')) := by
  obtain ⟨U, hU⟩ : ∃ U, U = w.alloc (.cells #[.int .i64 3, .int .i64 a, .int .i64 bb, .int .i64 c] 43) := ⟨_, rfl⟩
  have hbU : Below w.heap.size w U := by rw [hU]; go_grown
  have HO : Hid (∀ X, Frame U X (fun i => GB b s i) → X.cell? ⟨w.heap.size, 1, none⟩ = some (.int .i64 a) ∧ X.cell? ⟨w.heap.size, 2, none⟩ = some (.int .i64 bb) ∧ X.cell? ⟨w.heap.size, 3, none⟩ = some (.int .i64 c)) := fun X hX => by
    have hn : ¬ GB b s w.heap.size := fun hg => by have := h.two.ga.blt hg; omega
    refine ⟨hX.cell ?_ hn, hX.cell ?_ hn, hX.cell ?_ hn⟩ <;> (rw [hU]; go_cell)
  have HN : Hid (¬ RB br V w.heap.size) := fun hg => by have := h.two.ra.blt hg; omega
  have HR := hide (h.later hbU)
  have HC := hide HR.out.cells
  have HA := hide (fun X (hX : Below U.heap.size U X) => CA X s (HR.out.later hX).two.ga)
  obtain ⟨kx, hkx⟩ : ∃ kx, w.heap.size = kx := ⟨_, rfl⟩
  rw [hkx] at HO
  rw [hkx] at HN
  clear h CA
  go_enter Try.func14, Try.ntmps14
  go_upto_region 11 with fail
  rw [← hU]
  try rw [hkx]
  clear hU hbU hkx
  have HS : Hid (∀ X, Below U.heap.size U X → X.cell? ⟨kr, 0, none⟩ = some (ptr b) ∧ X.cell? ⟨kx, 1, none⟩ = some (.int .i64 a)) := fun X hX => ⟨later hX HC.out.1, (HO.out X (Frame.of_below hX _)).1⟩
  go_region_held3 (fun X => X.cell? ⟨kr, 0, none⟩ = some (ptr b) ∧ X.cell? ⟨kx, 1, none⟩ = some (.int .i64 a)) (first | exact HS.out _ (Below.refl _ _) | exact HS.out _ (below_drew _) | exact HW1.out) (first | (go_at_call 25; refine Calls.mono (HA.out _ (below_drew _)) ?_; rintro e w1 ⟨rfl, s1, g1, r1⟩; have HR1 := hide (Run.onA (HR.out.later (below_drew _)) g1 r1); have HF1 := hide ((Frame.of_below (below_drew _) _).trans r1.fr); have HW1 : Hid (w1.cell? ⟨kr, 0, none⟩ = some (ptr b) ∧ w1.cell? ⟨kx, 1, none⟩ = some (.int .i64 a)) := ⟨HR1.out.cells.1, (HO.out _ HF1.out).1⟩; clear g1 r1))
  rename_i hHeld
  clear hHeld HS
  have HS : Hid (∀ X, Below w1.heap.size w1 X → X.cell? ⟨kr, 1, none⟩ = some (ptr br) ∧ X.cell? ⟨kx, 1, none⟩ = some (.int .i64 a)) := fun X hX => ⟨later hX HR1.out.cells.2.1, later hX (HO.out _ HF1.out).1⟩
  go_wp2_with fail
  go_region_held3 (fun X => X.cell? ⟨kr, 1, none⟩ = some (ptr br) ∧ X.cell? ⟨kx, 1, none⟩ = some (.int .i64 a)) (first | exact HS.out _ (Below.refl _ _) | exact HS.out _ (below_drew _) | exact HW2.out) (first | (go_at_call 38; refine Calls.mono (CB _ _ (HR1.out.later (below_drew _)).two.ra) ?_; rintro e w2 ⟨rfl, V2, g2, r2⟩; have HR2 := hide ((HR1.out.later (below_drew _)).onB g2 r2); have HW2 : Hid (w2.cell? ⟨kr, 1, none⟩ = some (ptr br) ∧ w2.cell? ⟨kx, 1, none⟩ = some (.int .i64 a)) := ⟨HR2.out.cells.2.1, r2.fr.cell (HS.out _ (below_drew _)).2 (fun hg => HN.out hg)⟩; clear g2 r2))
  rename_i hHeld
  clear hHeld HS
  clear HA CB HO HC HR HF1
  by_cases hx : x = x'
  · have dx : (x == x') = true := by simpa using hx
    have HDx := hide hx
    clear hx
    by_cases hy : y = y'
    · have dy : (y == y') = true := by simpa using hy
      have HDy := hide hy
      clear hy
      go_wp2_with fail
      go_ret
      exact ⟨_, _, _, _, rfl, fun _ => rfl, HR2.out⟩
    · have dy : (y == y') = false := by simpa using hy
      have HDy := hide hy
      clear hy
      go_wp2_with fail
      go_ret
      exact ⟨_, _, _, _, rfl, fun hp => absurd hp.2 HDy.out, HR2.out⟩
  · have dx : (x == x') = false := by simpa using hx
    have HDx := hide hx
    clear hx
    go_wp2_with fail
    go_ret
    exact ⟨_, _, _, _, rfl, fun hp => absurd hp.1 HDx.out, HR2.out⟩
set_option maxRecDepth 100000 in
set_option maxHeartbeats 16000000 in
theorem play5 (kr b br : Nat) (s : GV) (V : RV) (G G' R R' : Gr) (M : List (Int × Gr)) (L : Int) (vk : Value) (mk : List Int) (a bb c x y z x' y' z' : Int) (w0 w : World) (h : Run w0 w kr b br s V G R M L vk mk)
    (CA : ∀ U s, GAt U b s G → Calls Try.prog 17 #[ptr b, .int .i64 a] U (Turns U b s (.tuple #[.int .i64 x, .int .i64 y, .int .i64 z]) G'))
    (CB : ∀ U V, RAt U br V R M L → Calls Try.prog 40 #[ptr br, .int .i64 a] U (RTurns U br V (.tuple #[.int .i64 x', .int .i64 y', .int .i64 z']) R' M L)) :
    Calls Try.prog 14 #[ptr kr, opv 5 a bb c] w (PPost w0 kr b br G' R' M L mk (x = x' ∧ y = y' ∧ z = z')) := by
  obtain ⟨U, hU⟩ : ∃ U, U = w.alloc (.cells #[.int .i64 5, .int .i64 a, .int .i64 bb, .int .i64 c] 43) := ⟨_, rfl⟩
  have hbU : Below w.heap.size w U := by rw [hU]; go_grown
  have HO : Hid (∀ X, Frame U X (fun i => GB b s i) → X.cell? ⟨w.heap.size, 1, none⟩ = some (.int .i64 a) ∧ X.cell? ⟨w.heap.size, 2, none⟩ = some (.int .i64 bb) ∧ X.cell? ⟨w.heap.size, 3, none⟩ = some (.int .i64 c)) := fun X hX => by
    have hn : ¬ GB b s w.heap.size := fun hg => by have := h.two.ga.blt hg; omega
    refine ⟨hX.cell ?_ hn, hX.cell ?_ hn, hX.cell ?_ hn⟩ <;> (rw [hU]; go_cell)
  have HN : Hid (¬ RB br V w.heap.size) := fun hg => by have := h.two.ra.blt hg; omega
  have HR := hide (h.later hbU)
  have HC := hide HR.out.cells
  have HA := hide (fun X (hX : Below U.heap.size U X) => CA X s (HR.out.later hX).two.ga)
  obtain ⟨kx, hkx⟩ : ∃ kx, w.heap.size = kx := ⟨_, rfl⟩
  rw [hkx] at HO
  rw [hkx] at HN
  clear h CA
  go_enter Try.func14, Try.ntmps14
  go_upto_region 17 with fail
  rw [← hU]
  try rw [hkx]
  clear hU hbU hkx
  have HS : Hid (∀ X, Below U.heap.size U X → X.cell? ⟨kr, 0, none⟩ = some (ptr b) ∧ X.cell? ⟨kx, 1, none⟩ = some (.int .i64 a)) := fun X hX => ⟨later hX HC.out.1, (HO.out X (Frame.of_below hX _)).1⟩
  go_region_held3 (fun X => X.cell? ⟨kr, 0, none⟩ = some (ptr b) ∧ X.cell? ⟨kx, 1, none⟩ = some (.int .i64 a)) (first | exact HS.out _ (Below.refl _ _) | exact HS.out _ (below_drew _) | exact HW1.out) (first | (go_at_call 17; refine Calls.mono (HA.out _ (below_drew _)) ?_; rintro e w1 ⟨rfl, s1, g1, r1⟩; have HR1 := hide (Run.onA (HR.out.later (below_drew _)) g1 r1); have HF1 := hide ((Frame.of_below (below_drew _) _).trans r1.fr); have HW1 : Hid (w1.cell? ⟨kr, 0, none⟩ = some (ptr b) ∧ w1.cell? ⟨kx, 1, none⟩ = some (.int .i64 a)) := ⟨HR1.out.cells.1, (HO.out _ HF1.out).1⟩; clear g1 r1))
  rename_i hHeld
  clear hHeld HS
  have HS : Hid (∀ X, Below w1.heap.size w1 X → X.cell? ⟨kr, 1, none⟩ = some (ptr br) ∧ X.cell? ⟨kx, 1, none⟩ = some (.int .i64 a)) := fun X hX => ⟨later hX HR1.out.cells.2.1, later hX (HO.out _ HF1.out).1⟩
  go_wp2_with fail
  go_region_held3 (fun X => X.cell? ⟨kr, 1, none⟩ = some (ptr br) ∧ X.cell? ⟨kx, 1, none⟩ = some (.int .i64 a)) (first | exact HS.out _ (Below.refl _ _) | exact HS.out _ (below_drew _) | exact HW2.out) (first | (go_at_call 40; refine Calls.mono (CB _ _ (HR1.out.later (below_drew _)).two.ra) ?_; rintro e w2 ⟨rfl, V2, g2, r2⟩; have HR2 := hide ((HR1.out.later (below_drew _)).onB g2 r2); have HW2 : Hid (w2.cell? ⟨kr, 1, none⟩ = some (ptr br) ∧ w2.cell? ⟨kx, 1, none⟩ = some (.int .i64 a)) := ⟨HR2.out.cells.2.1, r2.fr.cell (HS.out _ (below_drew _)).2 (fun hg => HN.out hg)⟩; clear g2 r2))
  rename_i hHeld
  clear hHeld HS
  clear HA CB HO HC HR HF1
  by_cases hx : x = x'
  · have dx : (x == x') = true := by simpa using hx
    have HDx := hide hx
    clear hx
    by_cases hy : y = y'
    · have dy : (y == y') = true := by simpa using hy
      have HDy := hide hy
      clear hy
      by_cases hz : z = z'
      · have dz : (z == z') = true := by simpa using hz
        have HDz := hide hz
        clear hz
        go_wp2_with fail
        go_ret
        exact ⟨_, _, _, _, rfl, fun _ => rfl, HR2.out⟩
      · have dz : (z == z') = false := by simpa using hz
        have HDz := hide hz
        clear hz
        go_wp2_with fail
        go_ret
        exact ⟨_, _, _, _, rfl, fun hp => absurd hp.2.2 HDz.out, HR2.out⟩
    · have dy : (y == y') = false := by simpa using hy
      have HDy := hide hy
      clear hy
      go_wp2_with fail
      go_ret
      exact ⟨_, _, _, _, rfl, fun hp => absurd hp.2.1 HDy.out, HR2.out⟩
  · have dx : (x == x') = false := by simpa using hx
    have HDx := hide hx
    clear hx
    go_wp2_with fail
    go_ret
    exact ⟨_, _, _, _, rfl, fun hp => absurd hp.1 HDx.out, HR2.out⟩
end Go.Proofs.Ytgfiofogcnnkhaa
