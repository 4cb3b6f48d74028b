/- plays: Unsplit, Move, Ends, Edges. -/
import Derived.Test.YtgfiofogcnnkhaaRG
import Derived.Test.YtgfiofogcnnkhaaRD
namespace Go.Proofs.Ytgfiofogcnnkhaa
open Go.RowKit Go.Sort
open Go

set_option maxRecDepth 100000 in
set_option maxHeartbeats 16000000 in
theorem play7 (kr b br : Nat) (s : GV) (V : RV) (G G' R R' : Gr) (M : List (Int × Gr)) (L : Int) (vk : Value) (mk : List Int) (a bb c x x' : Int) (w0 w : World) (h : Run w0 w kr b br s V G R M L vk mk)
    (CA : ∀ U s, GAt U b s G → Calls Try.prog 28 #[ptr b, .int .i64 a, .int .i64 bb, .int .i64 c] U (Turns U b s (.int .i64 x) G'))
    (CB : ∀ U V, RAt U br V R M L → Calls Try.prog 42 #[ptr br, .int .i64 a, .int .i64 bb, .int .i64 c] U (RTurns U br V (.int .i64 x') R' M L)) :
    Calls Try.prog 14 #[ptr kr, opv 7 a bb c] w (PPost w0 kr b br G' R' M L mk (x = x')) := by
  obtain ⟨U, hU⟩ : ∃ U, U = w.alloc (.cells #[.int .i64 7, .int .i64 a, .int .i64 bb, .int .i64 c] 43) := ⟨_, rfl⟩
  have hbU : Below w.heap.size w U := by rw [hU]; go_grown
  have HO : Hid (∀ X, Frame U X (fun i => GB b s i) → X.cell? ⟨w.heap.size, 1, none⟩ = some (.int .i64 a) ∧ X.cell? ⟨w.heap.size, 2, none⟩ = some (.int .i64 bb) ∧ X.cell? ⟨w.heap.size, 3, none⟩ = some (.int .i64 c)) := fun X hX => by
    have hn : ¬ GB b s w.heap.size := fun hg => by have := h.two.ga.blt hg; omega
    refine ⟨hX.cell ?_ hn, hX.cell ?_ hn, hX.cell ?_ hn⟩ <;> (rw [hU]; go_cell)
  have HN : Hid (¬ RB br V w.heap.size) := fun hg => by have := h.two.ra.blt hg; omega
  have HR := hide (h.later hbU)
  have HC := hide HR.out.cells
  have HA := hide (fun X (hX : Below U.heap.size U X) => CA X s (HR.out.later hX).two.ga)
  obtain ⟨kx, hkx⟩ : ∃ kx, w.heap.size = kx := ⟨_, rfl⟩
  rw [hkx] at HO
  rw [hkx] at HN
  clear h CA
  go_enter Try.func14, Try.ntmps14
  go_upto_region 25 with fail
  rw [← hU]
  try rw [hkx]
  clear hU hbU hkx
  have HS : Hid (∀ X, Below U.heap.size U X → X.cell? ⟨kr, 0, none⟩ = some (ptr b) ∧ X.cell? ⟨kr, 1, none⟩ = some (ptr br) ∧ X.cell? ⟨kx, 1, none⟩ = some (.int .i64 a) ∧ X.cell? ⟨kx, 2, none⟩ = some (.int .i64 bb) ∧ X.cell? ⟨kx, 3, none⟩ = some (.int .i64 c)) := fun X hX => ⟨later hX HC.out.1, later hX HC.out.2.1, (HO.out X (Frame.of_below hX _)).1, (HO.out X (Frame.of_below hX _)).2.1, (HO.out X (Frame.of_below hX _)).2.2⟩
  by_cases hx : x = x'
  · have dx : (x == x') = true := by simpa using hx
    have HDx := hide hx
    clear hx
    go_region_held3 (fun X => X.cell? ⟨kr, 0, none⟩ = some (ptr b) ∧ X.cell? ⟨kr, 1, none⟩ = some (ptr br) ∧ X.cell? ⟨kx, 1, none⟩ = some (.int .i64 a) ∧ X.cell? ⟨kx, 2, none⟩ = some (.int .i64 bb) ∧ X.cell? ⟨kx, 3, none⟩ = some (.int .i64 c)) (first | exact HS.out _ (Below.refl _ _) | exact HS.out _ (below_drew _) | exact HW1.out | exact HW2.out)
      (first | (go_at_call 28; refine Calls.mono (HA.out _ (below_drew _)) ?_; rintro e w1 ⟨rfl, s1, g1, r1⟩; have HR1 := hide (Run.onA (HR.out.later (below_drew _)) g1 r1); have HF1 := hide ((Frame.of_below (below_drew _) _).trans r1.fr); have HW1 : Hid (w1.cell? ⟨kr, 0, none⟩ = some (ptr b) ∧ w1.cell? ⟨kr, 1, none⟩ = some (ptr br) ∧ w1.cell? ⟨kx, 1, none⟩ = some (.int .i64 a) ∧ w1.cell? ⟨kx, 2, none⟩ = some (.int .i64 bb) ∧ w1.cell? ⟨kx, 3, none⟩ = some (.int .i64 c)) := ⟨HR1.out.cells.1, HR1.out.cells.2.1, (HO.out _ HF1.out).1, (HO.out _ HF1.out).2.1, (HO.out _ HF1.out).2.2⟩; clear g1 r1) | (go_at_call 42; refine Calls.mono (CB _ _ HR1.out.two.ra) ?_; rintro e w2 ⟨rfl, V2, g2, r2⟩; have HR2 := hide (HR1.out.onB g2 r2); have HW2 : Hid (w2.cell? ⟨kr, 0, none⟩ = some (ptr b) ∧ w2.cell? ⟨kr, 1, none⟩ = some (ptr br) ∧ w2.cell? ⟨kx, 1, none⟩ = some (.int .i64 a) ∧ w2.cell? ⟨kx, 2, none⟩ = some (.int .i64 bb) ∧ w2.cell? ⟨kx, 3, none⟩ = some (.int .i64 c)) := ⟨HR2.out.cells.1, HR2.out.cells.2.1, r2.fr.cell HW1.out.2.2.1 (fun hg => HN.out hg), r2.fr.cell HW1.out.2.2.2.1 (fun hg => HN.out hg), r2.fr.cell HW1.out.2.2.2.2 (fun hg => HN.out hg)⟩; clear g2 r2))
    rename_i hHeld
    clear hHeld
    go_wp2_with fail
    go_ret
    exact ⟨_, _, _, _, rfl, fun _ => rfl, HR2.out⟩
  · have dx : (x == x') = false := by simpa using hx
    have HDx := hide hx
    clear hx
    go_region_held3 (fun X => X.cell? ⟨kr, 0, none⟩ = some (ptr b) ∧ X.cell? ⟨kr, 1, none⟩ = some (ptr br) ∧ X.cell? ⟨kx, 1, none⟩ = some (.int .i64 a) ∧ X.cell? ⟨kx, 2, none⟩ = some (.int .i64 bb) ∧ X.cell? ⟨kx, 3, none⟩ = some (.int .i64 c)) (first | exact HS.out _ (Below.refl _ _) | exact HS.out _ (below_drew _) | exact HW1.out | exact HW2.out)
      (first | (go_at_call 28; refine Calls.mono (HA.out _ (below_drew _)) ?_; rintro e w1 ⟨rfl, s1, g1, r1⟩; have HR1 := hide (Run.onA (HR.out.later (below_drew _)) g1 r1); have HF1 := hide ((Frame.of_below (below_drew _) _).trans r1.fr); have HW1 : Hid (w1.cell? ⟨kr, 0, none⟩ = some (ptr b) ∧ w1.cell? ⟨kr, 1, none⟩ = some (ptr br) ∧ w1.cell? ⟨kx, 1, none⟩ = some (.int .i64 a) ∧ w1.cell? ⟨kx, 2, none⟩ = some (.int .i64 bb) ∧ w1.cell? ⟨kx, 3, none⟩ = some (.int .i64 c)) := ⟨HR1.out.cells.1, HR1.out.cells.2.1, (HO.out _ HF1.out).1, (HO.out _ HF1.out).2.1, (HO.out _ HF1.out).2.2⟩; clear g1 r1) | (go_at_call 42; refine Calls.mono (CB _ _ HR1.out.two.ra) ?_; rintro e w2 ⟨rfl, V2, g2, r2⟩; have HR2 := hide (HR1.out.onB g2 r2); have HW2 : Hid (w2.cell? ⟨kr, 0, none⟩ = some (ptr b) ∧ w2.cell? ⟨kr, 1, none⟩ = some (ptr br) ∧ w2.cell? ⟨kx, 1, none⟩ = some (.int .i64 a) ∧ w2.cell? ⟨kx, 2, none⟩ = some (.int .i64 bb) ∧ w2.cell? ⟨kx, 3, none⟩ = some (.int .i64 c)) := ⟨HR2.out.cells.1, HR2.out.cells.2.1, r2.fr.cell HW1.out.2.2.1 (fun hg => HN.out hg), r2.fr.cell HW1.out.2.2.2.1 (fun hg => HN.out hg), r2.fr.cell HW1.out.2.2.2.2 (fun hg => HN.out hg)⟩; clear g2 r2))
    rename_i hHeld
    clear hHeld
    go_wp2_with fail
    go_ret
    exact ⟨_, _, _, _, rfl, fun hp => absurd hp HDx.out, HR2.out⟩
set_option maxRecDepth 100000 in
set_option maxHeartbeats 16000000 in
theorem play9 (kr b br : Nat) (s : GV) (V : RV) (G R : Gr) (M : List (Int × Gr)) (L : Int) (vk : Value) (mk : List Int) (a bb c : Int) (w0 w : World) (h : Run w0 w kr b br s V G R M L vk mk) (hl : G.es.length ≤ 5000) (hl2 : R.es.length ≤ 5000) :
    Calls Try.prog 14 #[ptr kr, opv 9 a bb c] w (PPost w0 kr b br G R M L mk (idAt G a = rE R.es a R.es.length)) := by
  obtain ⟨U, hU⟩ : ∃ U, U = w.alloc (.cells #[.int .i64 9, .int .i64 a, .int .i64 bb, .int .i64 c] 43) := ⟨_, rfl⟩
  have hbU : Below w.heap.size w U := by rw [hU]; go_grown
  have q1 : U.cell? ⟨w.heap.size, 1, none⟩ = some (.int .i64 a) := by rw [hU]; go_cell
  have HR := hide (h.later hbU)
  have HE := hide (edges44 kr b br s V G R M L a U HR.out.two.ga HR.out.two.ra HR.out.cells.1 HR.out.cells.2.1 hl hl2)
  obtain ⟨kx, hkx⟩ : ∃ kx, w.heap.size = kx := ⟨_, rfl⟩
  rw [hkx] at q1
  clear h hl hl2
  go_enter Try.func14, Try.ntmps14
  go_upto_region 31 with fail
  rw [← hU]
  try rw [hkx]
  clear hU hbU hkx
  go_wp2_with (go_at_call 44; refine Calls.mono HE.out ?_; rintro e w1 ⟨r, rfl, hr, hb1⟩; have HR1 := hide (HR.out.later hb1); have HP := hide hr; clear hr hb1)
  go_ret
  exact ⟨_, _, _, _, rfl, HP.out, HR1.out⟩

set_option maxRecDepth 100000 in
set_option maxHeartbeats 16000000 in
theorem play6 (kr b br : Nat) (s : GV) (V : RV) (G G' R R' : Gr) (M : List (Int × Gr)) (L : Int) (vk : Value) (mk : List Int) (a bb c x y x' y' : Int) (w0 w : World) (h : Run w0 w kr b br s V G R M L vk mk)
    (CA : ∀ U s, GAt U b s G → Calls Try.prog 18 #[ptr b, .int .i64 a] U (Turns U b s (.tuple #[.int .i64 x, .int .i64 y]) G'))
    (CB : ∀ U V, RAt U br V R M L → Calls Try.prog 41 #[ptr br, .int .i64 a] U (RTurns U br V (.tuple #[.int .i64 x', .int .i64 y']) R' M L)) :
    Calls Try.prog 14 #[ptr kr, opv 6 a bb c] w (PPost w0 kr b br G' R' M L mk (x = x' ∧ y = y')) := by
  obtain ⟨U, hU⟩ : ∃ U, U = w.alloc (.cells #[.int .i64 6, .int .i64 a, .int .i64 bb, .int .i64 c] 43) := ⟨_, rfl⟩
  have hbU : Below w.heap.size w U := by rw [hU]; go_grown
  have HO : Hid (∀ X, Frame U X (fun i => GB b s i) → X.cell? ⟨w.heap.size, 1, none⟩ = some (.int .i64 a) ∧ X.cell? ⟨w.heap.size, 2, none⟩ = some (.int .i64 bb) ∧ X.cell? ⟨w.heap.size, 3, none⟩ = some (.int .i64 c)) := fun X hX => by
    have hn : ¬ GB b s w.heap.size := fun hg => by have := h.two.ga.blt hg; omega
    refine ⟨hX.cell ?_ hn, hX.cell ?_ hn, hX.cell ?_ hn⟩ <;> (rw [hU]; go_cell)
  have HN : Hid (¬ RB br V w.heap.size) := fun hg => by have := h.two.ra.blt hg; omega
  have HR := hide (h.later hbU)
  have HC := hide HR.out.cells
  have HA := hide (fun X (hX : Below U.heap.size U X) => CA X s (HR.out.later hX).two.ga)
  obtain ⟨kx, hkx⟩ : ∃ kx, w.heap.size = kx := ⟨_, rfl⟩
  rw [hkx] at HO
  rw [hkx] at HN
  clear h CA
  go_enter Try.func14, Try.ntmps14
  go_upto_region 21 with fail
  rw [← hU]
  try rw [hkx]
  clear hU hbU hkx
  have HS : Hid (∀ X, Below U.heap.size U X → X.cell? ⟨kr, 0, none⟩ = some (ptr b) ∧ X.cell? ⟨kx, 1, none⟩ = some (.int .i64 a)) := fun X hX => ⟨later hX HC.out.1, (HO.out X (Frame.of_below hX _)).1⟩
  go_region_held3 (fun X => X.cell? ⟨kr, 0, none⟩ = some (ptr b) ∧ X.cell? ⟨kx, 1, none⟩ = some (.int .i64 a)) (first | exact HS.out _ (Below.refl _ _) | exact HS.out _ (below_drew _) | exact HW1.out) (first | (go_at_call 18; refine Calls.mono (HA.out _ (below_drew _)) ?_; rintro e w1 ⟨rfl, s1, g1, r1⟩; have HR1 := hide (Run.onA (HR.out.later (below_drew _)) g1 r1); have HF1 := hide ((Frame.of_below (below_drew _) _).trans r1.fr); have HW1 : Hid (w1.cell? ⟨kr, 0, none⟩ = some (ptr b) ∧ w1.cell? ⟨kx, 1, none⟩ = some (.int .i64 a)) := ⟨HR1.out.cells.1, (HO.out _ HF1.out).1⟩; clear g1 r1))
  rename_i hHeld
  clear hHeld HS
  have HS : Hid (∀ X, Below w1.heap.size w1 X → X.cell? ⟨kr, 1, none⟩ = some (ptr br) ∧ X.cell? ⟨kx, 1, none⟩ = some (.int .i64 a)) := fun X hX => ⟨later hX HR1.out.cells.2.1, later hX (HO.out _ HF1.out).1⟩
  go_wp2_with fail
  go_region_held3 (fun X => X.cell? ⟨kr, 1, none⟩ = some (ptr br) ∧ X.cell? ⟨kx, 1, none⟩ = some (.int .i64 a)) (first | exact HS.out _ (Below.refl _ _) | exact HS.out _ (below_drew _) | exact HW2.out) (first | (go_at_call 41; refine Calls.mono (CB _ _ (HR1.out.later (below_drew _)).two.ra) ?_; rintro e w2 ⟨rfl, V2, g2, r2⟩; have HR2 := hide ((HR1.out.later (below_drew _)).onB g2 r2); have HW2 : Hid (w2.cell? ⟨kr, 1, none⟩ = some (ptr br) ∧ w2.cell? ⟨kx, 1, none⟩ = some (.int .i64 a)) := ⟨HR2.out.cells.2.1, r2.fr.cell (HS.out _ (below_drew _)).2 (fun hg => HN.out hg)⟩; clear g2 r2))
  rename_i hHeld
  clear hHeld HS
  clear HA CB HO HC HR HF1
  by_cases hx : x = x'
  · have dx : (x == x') = true := by simpa using hx
    have HDx := hide hx
    clear hx
    by_cases hy : y = y'
    · have dy : (y == y') = true := by simpa using hy
      have HDy := hide hy
      clear hy
      go_wp2_with fail
      go_ret
      exact ⟨_, _, _, _, rfl, fun _ => rfl, HR2.out⟩
    · have dy : (y == y') = false := by simpa using hy
      have HDy := hide hy
      clear hy
      go_wp2_with fail
      go_ret
      exact ⟨_, _, _, _, rfl, fun hp => absurd hp.2 HDy.out, HR2.out⟩
  · have dx : (x == x') = false := by simpa using hx
    have HDx := hide hx
    clear hx
    go_wp2_with fail
    go_ret
    exact ⟨_, _, _, _, rfl, fun hp => absurd hp.1 HDx.out, HR2.out⟩
set_option maxRecDepth 100000 in
set_option maxHeartbeats 16000000 in
theorem play8 (kr b br : Nat) (s : GV) (V : RV) (G G' R R' : Gr) (M : List (Int × Gr)) (L : Int) (vk : Value) (mk : List Int) (a bb c x y z x' y' z' : Int) (w0 w : World) (h : Run w0 w kr b br s V G R M L vk mk)
    (CA : ∀ U s, GAt U b s G → Calls Try.prog 16 #[ptr b, .int .i64 a] U (Turns U b s (.tuple #[.int .i64 x, .int .i64 y, .int .i64 z]) G'))
    (CB : ∀ U V, RAt U br V R M L → Calls Try.prog 43 #[ptr br, .int .i64 a] U (RTurns U br V (.tuple #[.int .i64 x', .int .i64 y', .int .i64 z']) R' M L)) :
    Calls Try.prog 14 #[ptr kr, opv 8 a bb c] w (PPost w0 kr b br G' R' M L mk (x = x' ∧ y = y' ∧ z = z')) := by
  obtain ⟨U, hU⟩ : ∃ U, U = w.alloc (.cells #[.int .i64 8, .int .i64 a, .int .i64 bb, .int .i64 c] 43) := ⟨_, rfl⟩
  have hbU : Below w.heap.size w U := by rw [hU]; go_grown
  have HO : Hid (∀ X, Frame U X (fun i => GB b s i) → X.cell? ⟨w.heap.size, 1, none⟩ = some (.int .i64 a) ∧ X.cell? ⟨w.heap.size, 2, none⟩ = some (.int .i64 bb) ∧ X.cell? ⟨w.heap.size, 3, none⟩ = some (.int .i64 c)) := fun X hX => by
    have hn : ¬ GB b s w.heap.size := fun hg => by have := h.two.ga.blt hg; omega
    refine ⟨hX.cell ?_ hn, hX.cell ?_ hn, hX.cell ?_ hn⟩ <;> (rw [hU]; go_cell)
  have HN : Hid (¬ RB br V w.heap.size) := fun hg => by have := h.two.ra.blt hg; omega
  have HR := hide (h.later hbU)
  have HC := hide HR.out.cells
  have HA := hide (fun X (hX : Below U.heap.size U X) => CA X s (HR.out.later hX).two.ga)
  obtain ⟨kx, hkx⟩ : ∃ kx, w.heap.size = kx := ⟨_, rfl⟩
  rw [hkx] at HO
  rw [hkx] at HN
  clear h CA
  go_enter Try.func14, Try.ntmps14
  go_upto_region 27 with fail
  rw [← hU]
  try rw [hkx]
  clear hU hbU hkx
  have HS : Hid (∀ X, Below U.heap.size U X → X.cell? ⟨kr, 0, none⟩ = some (ptr b) ∧ X.cell? ⟨kx, 1, none⟩ = some (.int .i64 a)) := fun X hX => ⟨later hX HC.out.1, (HO.out X (Frame.of_below hX _)).1⟩
  go_region_held3 (fun X => X.cell? ⟨kr, 0, none⟩ = some (ptr b) ∧ X.cell? ⟨kx, 1, none⟩ = some (.int .i64 a)) (first | exact HS.out _ (Below.refl _ _) | exact HS.out _ (below_drew _) | exact HW1.out) (first | (go_at_call 16; refine Calls.mono (HA.out _ (below_drew _)) ?_; rintro e w1 ⟨rfl, s1, g1, r1⟩; have HR1 := hide (Run.onA (HR.out.later (below_drew _)) g1 r1); have HF1 := hide ((Frame.of_below (below_drew _) _).trans r1.fr); have HW1 : Hid (w1.cell? ⟨kr, 0, none⟩ = some (ptr b) ∧ w1.cell? ⟨kx, 1, none⟩ = some (.int .i64 a)) := ⟨HR1.out.cells.1, (HO.out _ HF1.out).1⟩; clear g1 r1))
  rename_i hHeld
  clear hHeld HS
  have HS : Hid (∀ X, Below w1.heap.size w1 X → X.cell? ⟨kr, 1, none⟩ = some (ptr br) ∧ X.cell? ⟨kx, 1, none⟩ = some (.int .i64 a)) := fun X hX => ⟨later hX HR1.out.cells.2.1, later hX (HO.out _ HF1.out).1⟩
  go_wp2_with fail
  go_region_held3 (fun X => X.cell? ⟨kr, 1, none⟩ = some (ptr br) ∧ X.cell? ⟨kx, 1, none⟩ = some (.int .i64 a)) (first | exact HS.out _ (Below.refl _ _) | exact HS.out _ (below_drew _) | exact HW2.out) (first | (go_at_call 43; refine Calls.mono (CB _ _ (HR1.out.later (below_drew _)).two.ra) ?_; rintro e w2 ⟨rfl, V2, g2, r2⟩; have HR2 := hide ((HR1.out.later (below_drew _)).onB g2 r2); have HW2 : Hid (w2.cell? ⟨kr, 1, none⟩ = some (ptr br) ∧ w2.cell? ⟨kx, 1, none⟩ = some (.int .i64 a)) := ⟨HR2.out.cells.2.1, r2.fr.cell (HS.out _ (below_drew _)).2 (fun hg => HN.out hg)⟩; clear g2 r2))
  rename_i hHeld
  clear hHeld HS
  clear HA CB HO HC HR HF1
  by_cases hx : x = x'
  · have dx : (x == x') = true := by simpa using hx
    have HDx := hide hx
    clear hx
    by_cases hy : y = y'
    · have dy : (y == y') = true := by simpa using hy
      have HDy := hide hy
      clear hy
      by_cases hz : z = z'
      · have dz : (z == z') = true := by simpa using hz
        have HDz := hide hz
        clear hz
        go_wp2_with fail
        go_ret
        exact ⟨_, _, _, _, rfl, fun _ => rfl, HR2.out⟩
      · have dz : (z == z') = false := by simpa using hz
        have HDz := hide hz
        clear hz
        go_wp2_with fail
        go_ret
        exact ⟨_, _, _, _, rfl, fun hp => absurd hp.2.2 HDz.out, HR2.out⟩
    · have dy : (y == y') = false := by simpa using hy
      have HDy := hide hy
      clear hy
      go_wp2_with fail
      go_ret
      exact ⟨_, _, _, _, rfl, fun hp => absurd hp.2.1 HDy.out, HR2.out⟩
  · have dx : (x == x') = false := by simpa using hx
    have HDx := hide hx
    clear hx
    go_wp2_with fail
    go_ret
    exact ⟨_, _, _, _, rfl, fun hp => absurd hp.1 HDx.out, HR2.out⟩
end Go.Proofs.Ytgfiofogcnnkhaa
