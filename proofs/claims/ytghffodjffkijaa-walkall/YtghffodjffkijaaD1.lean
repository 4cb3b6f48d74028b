/- nearest: of the edges beside a tree the one by which the way round is the shortest. -/
import Derived.Test.YtghffodjffkijaaC4
namespace Go.Proofs.Ytghffodjffkijaa
open Go.RowKit Go.Sort
open Go

/-- The edge and the length, among the first ones. -/
def nrN (es : List Pt) (By Fa : List Int) : Nat → Int × Int
  | 0 => (-1, 0)
  | e + 1 =>
    if iat Fa (at' es e).x.toNat < 0 ∨ iat By (at' es e).y.toNat = 2 * (e : Int) ∨ iat By (at' es e).x.toNat = 2 * (e : Int) + 1 then nrN es By Fa e
    else if (nrN es By Fa e).1 < 0 ∨ iat Fa (at' es e).x.toNat + iat Fa (at' es e).y.toNat + 1 < (nrN es By Fa e).2 then ((e : Int), iat Fa (at' es e).x.toNat + iat Fa (at' es e).y.toNat + 1) else nrN es By Fa e
set_option maxRecDepth 100000 in
set_option maxHeartbeats 8000000 in
theorem nearest49 (m : Nat) (p : Option Addr) (es : List Pt) (cp : Nat) (po : Option Addr) (lo co gb gf : Nat) (B : Nat) (By Fa : List Int) (w : World) (h : Has w p es) (hm : netB m es = true) (hB : IRow w B gb m By) (hF : IRow w B gf m Fa) (hv : ∀ v, v < m → -1 ≤ iat Fa v ∧ iat Fa v ≤ 100000) :
    Calls Try.prog 49 #[nv m p es.length cp, tv (.slice po lo co) (.slice (some ⟨gb, 0, none⟩) m m) (.slice (some ⟨gf, 0, none⟩) m m) nilS] w fun e w' => e = .returned (.tuple #[.int .i64 (nrN es By Fa es.length).1, .int .i64 (nrN es By Fa es.length).2]) ∧ Below w.heap.size w w' := by
  obtain ⟨W, hW⟩ : ∃ W, W = (w.alloc (nbx m p es.length cp)).alloc (.cells #[.slice po lo co, .slice (some ⟨gb, 0, none⟩) m m, .slice (some ⟨gf, 0, none⟩) m m, nilS] 35) := ⟨_, rfl⟩
  have hb : Below w.heap.size w W := by rw [hW]; go_grown
  obtain ⟨n0, n1, hes, hE⟩ := netB_is hm
  have HE := hide hE
  have HH := hide (h.later hb)
  have HBY := hide (hB.later hb)
  have HFA := hide (hF.later hb)
  have HV := hide hv
  have HB := hide hb
  have HA : Hid (NOwn W w.heap.size m p es.length cp) := by show NOwn _ _ _ _ _ _; rw [hW]; exact ⟨by unfold nbx; go_cell, by unfold nbx; go_cell, by unfold nbx; go_cell, by unfold nbx; go_cell⟩
  have HX : Hid (W.cell? ⟨w.heap.size + 1, 1, none⟩ = some (.slice (some ⟨gb, 0, none⟩) m m) ∧ W.cell? ⟨w.heap.size + 1, 2, none⟩ = some (.slice (some ⟨gf, 0, none⟩) m m)) := by show _ ∧ _; rw [hW]; exact ⟨by go_cell, by go_cell⟩
  clear h hb hE hB hF hv hm
  go_enter Try.func49, Try.ntmps49
  go_wp2_with fail
  rw [← hW]
  clear hW
  obtain ⟨kb, hkb⟩ : ∃ kb, w.heap.size + 1 = kb := ⟨_, rfl⟩
  rw [hkb] at HX ⊢
  clear hkb
  go_loopw [6, 7, 16] (fun t6 t7 t16 wr => ∃ e : Nat, e ≤ es.length ∧ t6 = .int .i64 (nrN es By Fa e).1 ∧ t7 = .int .i64 (nrN es By Fa e).2 ∧ t16 = .int .i64 e ∧ Hid (Below W.heap.size W wr)) (fun _ _ t16 _ => es.length - (intOf t16).toNat)
  case atStart => exact ⟨0, by omega, rfl, rfl, rfl, Below.refl _ _⟩
  case round =>
    obtain ⟨e, he, rfl, rfl, rfl, HBr⟩ := hrel
    by_cases hlt : e < es.length
    · have hq : ∃ b off, p = some ⟨b, off, none⟩ ∧ Lies W b off es := by
        rcases HH.out with h0 | h0
        · subst h0; simp at hlt
        · exact h0
      obtain ⟨b, off, rfl, hLW⟩ := hq
      obtain ⟨c0, c1⟩ := hLW.later HBr.out e hlt
      obtain ⟨f0, f1, f2, f3⟩ := HE.out e hlt
      have HST : Hid (nrN es By Fa (e + 1) = if iat Fa (at' es e).x.toNat < 0 ∨ iat By (at' es e).y.toNat = 2 * (e : Int) ∨ iat By (at' es e).x.toNat = 2 * (e : Int) + 1 then nrN es By Fa e else if (nrN es By Fa e).1 < 0 ∨ iat Fa (at' es e).x.toNat + iat Fa (at' es e).y.toNat + 1 < (nrN es By Fa e).2 then ((e : Int), iat Fa (at' es e).x.toNat + iat Fa (at' es e).y.toNat + 1) else nrN es By Fa e) := rfl
      obtain ⟨x, hx⟩ : ∃ x : Nat, (at' es e).x = x := ⟨(at' es e).x.toNat, by omega⟩
      obtain ⟨y, hy⟩ : ∃ y : Nat, (at' es e).y = y := ⟨(at' es e).y.toNat, by omega⟩
      rw [hx] at c0 HST f0 f1
      rw [hy] at c1 HST f2 f3
      simp only [Int.toNat_natCast] at HST
      have hxm : x < m := by omega
      have hym : y < m := by omega
      have i1 : (e : Int) < es.length := by omega
      have i2 : (0 : Int) ≤ e := by omega
      have i3 : (x : Int) < m := by omega
      have i4 : (0 : Int) ≤ x := by omega
      have i5 : (y : Int) < m := by omega
      have i6 : (0 : Int) ≤ y := by omega
      have nb : b < wr.heap.size := block_lt_of_cell c0
      clear hx hy hLW
      go_upto_region 5 with fail
      obtain ⟨V, hV⟩ : ∃ V, V = wr.alloc (.cells #[.int .i64 x, .int .i64 y] 49) := ⟨_, rfl⟩
      have hbV : Below wr.heap.size wr V := by rw [hV]; go_grown
      have v0 : V.cell? ⟨wr.heap.size, 0, none⟩ = some (.int .i64 x) := by rw [hV]; go_cell
      have v1 : V.cell? ⟨wr.heap.size, 1, none⟩ = some (.int .i64 y) := by rw [hV]; go_cell
      have hbW := below_step HBr.out hbV
      have HBV := hide hbW
      rw [← hV]
      clear hV hbV c0 c1
      obtain ⟨x1, x2⟩ := HX.out
      have x1' := later hbW x1
      have x2' := later hbW x2
      obtain ⟨r0, _⟩ := (HBY.out.later hbW).cell hxm
      obtain ⟨r1, _⟩ := (HBY.out.later hbW).cell hym
      obtain ⟨r2, _⟩ := (HFA.out.later hbW).cell hxm
      obtain ⟨r3, _⟩ := (HFA.out.later hbW).cell hym
      have g0 := HV.out x hxm
      have g1 := HV.out y hym
      clear hbW x1 x2 nb
      obtain ⟨P, hP⟩ : ∃ P, nrN es By Fa e = P := ⟨_, rfl⟩
      obtain ⟨bx, hbx⟩ : ∃ z, iat By x = z := ⟨_, rfl⟩
      obtain ⟨bY, hby⟩ : ∃ z, iat By y = z := ⟨_, rfl⟩
      obtain ⟨fx, hfx⟩ : ∃ z, iat Fa x = z := ⟨_, rfl⟩
      obtain ⟨fy, hfy⟩ : ∃ z, iat Fa y = z := ⟨_, rfl⟩
      rw [hbx] at r0 HST
      rw [hby] at r1 HST
      rw [hfx] at r2 HST g0
      rw [hfy] at r3 HST g1
      rw [hP] at HST ⊢
      clear hbx hby hfx hfy hP
      obtain ⟨ed, le⟩ := P
      simp only at HST ⊢
      by_cases hA : fx < 0
      · rw [if_pos (Or.inl hA)] at HST
        go_quiet (fail)
        clear v0 v1
        go_wp2
        go_roundw
        case rel => exact ⟨e + 1, by omega, by rw [HST.out], by rw [HST.out], by go_num, below_drewN HBV.out⟩
        case measure => simp [intOf]; omega
      by_cases hBB : bY = 2 * (e : Int)
      · rw [if_pos (Or.inr (Or.inl hBB))] at HST
        have t1 : (bY == 2 * (e : Int)) = true := by simp [hBB]
        go_quiet (fail)
        clear v0 v1
        go_wp2
        go_roundw
        case rel => exact ⟨e + 1, by omega, by rw [HST.out], by rw [HST.out], by go_num, below_drewN HBV.out⟩
        case measure => simp [intOf]; omega
      have t1 : (bY == 2 * (e : Int)) = false := by simp [hBB]
      by_cases hC : bx = 2 * (e : Int) + 1
      · rw [if_pos (Or.inr (Or.inr hC))] at HST
        have t2 : (bx == 2 * (e : Int) + 1) = true := by simp [hC]
        go_quiet (fail)
        clear v0 v1
        go_wp2
        go_roundw
        case rel => exact ⟨e + 1, by omega, by rw [HST.out], by rw [HST.out], by go_num, below_drewN HBV.out⟩
        case measure => simp [intOf]; omega
      have t2 : (bx == 2 * (e : Int) + 1) = false := by simp [hC]
      rw [if_neg (by omega)] at HST
      go_quiet (fail)
      clear v0 v1
      obtain ⟨Z, hZ⟩ : ∃ Z, Z = V.drewN nq := ⟨_, rfl⟩
      have hbZ : Below V.heap.size V Z := by rw [hZ]; exact below_drewN (Below.refl _ _)
      have HBZ := hide (below_step HBV.out hbZ)
      have s1 := later hbZ x1'
      have s2 := later hbZ x2'
      have u0 := later hbZ r0
      have u1 := later hbZ r1
      have u2 := later hbZ r2
      have u3 := later hbZ r3
      rw [← hZ]
      clear hZ hbZ x1' x2' r0 r1 r2 r3
      have hsum : Hid (fx + fy + 1 = fx + fy + 1) := rfl
      go_upto_region 7 with fail
      go_quiet (fail)
      by_cases hD : ed < 0
      · rw [if_pos (Or.inl hD)] at HST
        go_wp2
        go_roundw
        case rel => exact ⟨e + 1, by omega, by rw [HST.out], by rw [HST.out], by go_num, below_drewN HBZ.out⟩
        case measure => simp [intOf]; omega
      by_cases hE : fx + fy + 1 < le
      · rw [if_pos (Or.inr hE)] at HST
        go_wp2
        go_roundw
        case rel => exact ⟨e + 1, by omega, by rw [HST.out], by rw [HST.out], by go_num, below_drewN HBZ.out⟩
        case measure => simp [intOf]; omega
      · rw [if_neg (by omega)] at HST
        go_wp2
        go_roundw
        case rel => exact ⟨e + 1, by omega, by rw [HST.out], by rw [HST.out], by go_num, below_drewN HBZ.out⟩
        case measure => simp [intOf]; omega
    · have hen : e = es.length := by omega
      have i1 : ¬ (e : Int) < es.length := by omega
      rw [hen]
      clear hen
      go_wp2
      go_ret2
      exact ⟨rfl, below_step HB.out HBr.out⟩
end Go.Proofs.Ytghffodjffkijaa
