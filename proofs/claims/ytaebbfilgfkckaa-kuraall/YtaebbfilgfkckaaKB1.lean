/- kura's comesTo and outs, in every world (carried from walk's). -/
import Derived.Test.YtaebbfilgfkckaaX3
import Derived.Test.YtaebbfilgfkckaaY1
import Derived.Deep.DeepCutAuto
namespace Go.Proofs.Ytaebbfilgfkckaa
open Go.RowKit Go.Sort
open Go

set_option maxHeartbeats 1000000 in
theorem comes54 (n : Int) (p : Option Addr) (es : List Pt) (cap h : Nat) (w : World) (hh : Has w p es) (hl : h < 2 * es.length) (hb : es.length ≤ 100000) : Calls Try.prog 71 #[nv n p es.length cap, .int .i64 h] w fun e w' => e = .returned (.int .i64 (toL es h)) ∧ Below w.heap.size w w' := by
  have hk : h / 2 < es.length := by omega
  rcases hh with h0 | ⟨b, off, rfl, hL⟩
  · subst h0; simp at hk
  obtain ⟨c0, c1⟩ := hL (h / 2) hk
  have zb : b < w.heap.size := block_lt_of_cell c0
  have hd : Int.tdiv (h : Int) 2 = ((h / 2 : Nat) : Int) := by rw [Int.tdiv_eq_ediv_of_nonneg (by omega)]; exact (Int.natCast_ediv h 2).symm
  have hr : Int.tmod (h : Int) 2 = ((h % 2 : Nat) : Int) := by rw [Int.tmod_eq_emod_of_nonneg (by omega)]; exact (Int.natCast_emod h 2).symm
  have HF : Hid (toL es h = if h % 2 = 0 then (at' es (h / 2)).y else (at' es (h / 2)).x) := rfl
  obtain ⟨x, hx⟩ : ∃ x, at' es (h / 2) = x := ⟨_, rfl⟩
  rw [hx] at c0 c1 HF
  have hr2 : h % 2 < 2 := by omega
  have hkl : h / 2 ≤ 100000 := by omega
  obtain ⟨q, hq⟩ : ∃ q, h / 2 = q := ⟨_, rfl⟩
  obtain ⟨r, hre⟩ : ∃ r, h % 2 = r := ⟨_, rfl⟩
  rw [hq] at c0 c1 hd hk hkl
  rw [hre] at hr HF hr2
  have i1 : (q : Int) < es.length := by omega
  have i2 : (0 : Int) ≤ q := by omega
  clear hx hL hq hre
  have h01 : r = 0 ∨ r = 1 := by omega
  rcases h01 with rfl | rfl
  · go_enter Try.func71, Try.ntmps71
    go_wp2
    go_ret
    exact ⟨retI (by rw [HF.out]; simp), by go_grown⟩
  · go_enter Try.func71, Try.ntmps71
    go_wp2
    go_ret
    exact ⟨retI (by rw [HF.out]; simp), by go_grown⟩

set_option maxRecDepth 100000 in
set_option maxHeartbeats 8000000 in
theorem outs39 (m : Nat) (p : Option Addr) (es : List Pt) (cp : Nat) (w : World) (h : Has w p es) (hm : netB m es = true) : Calls Try.prog 69 #[nv m p es.length cp] w fun e w' => ∃ g rv, e = .returned (.slice (some ⟨g, 0, none⟩) m m) ∧ Rows w' w.heap.size g m rv (outL es (2 * es.length)) ∧ Below w.heap.size w w' := by
  obtain ⟨W, hW, hb, a0⟩ := one_net w m p es.length cp
  obtain ⟨n0, n1, hes, hE⟩ := netB_is hm
  have HEE := hide hE
  have HH := hide (h.later hb)
  have HB := hide hb
  have HA := hide a0
  have hws : w.heap.size < W.heap.size := block_lt_of_cell a0.1
  have hWs : W.heap.size = w.heap.size + 1 := by rw [hW]; simp
  obtain ⟨q0, q1, _, _⟩ := a0
  clear h hb hE
  obtain ⟨i0, hi0, hz0, hz1, hz2⟩ := info_parts info41
  go_enter Try.func69, Try.ntmps69
  go_wp2_with (refine wpList_make_full _ rfl (.tmp 9) (.tmp 9) 30 rfl (w.alloc (nbx m p es.length cp)).heap.size 25 i0 (.slice none 0 0) 1 Try.underlying30 hi0 hz0 hz1 .i64 .i64 _ _ m rfl rfl rfl rfl ?c1 ?c2 ?c3 ?_)
  case c1 => rw [hz2]; omega
  case c2 => unfold maxLen; omega
  case c3 => exact Nat.le_refl _
  intro w2 hown hgrow
  have hgrow' : W.grownBy w2 none := by rw [hW]; exact hgrow
  have HR2 := hide (rows_made es hown)
  have hb2 := below_made hgrow'
  have HB2 := hide hb2
  have HSZ := hide hWs
  clear hown hgrow hgrow' hW hWs q0 q1
  obtain ⟨q0, q1, _, _⟩ := HA.out.later hb2
  clear hb2
  go_wp2_with fail
  obtain ⟨g, hg⟩ : ∃ g, w.heap.size + 1 = g := ⟨_, rfl⟩
  obtain ⟨kb, hkb⟩ : ∃ kb, w.heap.size = kb := ⟨_, rfl⟩
  rw [hg] at HR2 HSZ ⊢
  rw [hkb] at HA hws q0 q1 ⊢
  have HK := hide (And.intro hg hkb)
  clear hg hkb q0 q1
  go_loopw [14] (fun t wr => ∃ i : Nat, i ≤ es.length ∧ t = .int .i64 i ∧ Hid (Below W.heap.size W wr) ∧ Hid (∃ rv, Rows wr g g m rv (outL es (2 * i)))) (fun t _ => es.length - (intOf t).toNat)
  case atStart => exact ⟨0, by omega, rfl, HB2.out, _, HR2.out⟩
  case round =>
    obtain ⟨i, hi, rfl, HBr, HR⟩ := hrel
    by_cases hlt : i < es.length
    · obtain ⟨rv, hrv⟩ := HR.out
      obtain ⟨f0, f1, f2, f3⟩ := HEE.out i hlt
      have hq : ∃ b off, p = some ⟨b, off, none⟩ ∧ Lies W b off es := by
        rcases HH.out with h0 | h0
        · subst h0; simp at hlt
        · exact h0
      obtain ⟨b, off, rfl, hLW⟩ := hq
      obtain ⟨c0, c1⟩ := hLW.later HBr.out i hlt
      have i1 : (i : Int) < es.length := by omega
      have i2 : (0 : Int) ≤ i := by omega
      have nb : b < wr.heap.size := block_lt_of_cell c0
      go_wp2_with fail
      obtain ⟨V, hV⟩ : ∃ V, V = wr.alloc (.cells #[.int .i64 (at' es i).x, .int .i64 (at' es i).y] 57) := ⟨_, rfl⟩
      have hbV : Below wr.heap.size wr V := by rw [hV]; go_grown
      have HBV := hide (below_step HBr.out hbV)
      have HRV := hide (hrv.later hbV)
      rw [← hV]
      clear hV hbV c0 c1 hrv HR HBr
      obtain ⟨kv, hkv⟩ : ∃ kv, wr.heap.size = kv := ⟨_, rfl⟩
      rw [hkv]
      clear hkv nb
      go_loopw [20] (fun t wr => ∃ s : Nat, s ≤ 2 ∧ t = .int .i64 s ∧ Hid (Below W.heap.size W wr) ∧ Hid (∃ rv, Rows wr g g m rv (outL es (2 * i + s)))) (fun t _ => 2 - (intOf t).toNat)
      case atStart => exact ⟨0, by omega, rfl, HBV.out, rv, HRV.out⟩
      case round =>
        clear HBV HRV
        obtain ⟨s, hs, rfl, HBi, HRi⟩ := hrel
        obtain ⟨rv, hRv⟩ := HRi.out
        rcases (by omega : s = 0 ∨ s = 1 ∨ s = 2) with rfl | rfl | rfl
        · rw [Nat.add_zero] at hRv
          have hfx : fromL es (2 * i) = (at' es i).x := by unfold fromL; rw [if_pos (by omega), show 2 * i / 2 = i by omega]
          obtain ⟨x, hx⟩ : ∃ x : Nat, (at' es i).x = x := ⟨(at' es i).x.toNat, by omega⟩
          have hxm : x < m := by omega
          rw [hx] at hfx
          have hD := hide (outL_more es (2 * i) hfx)
          have hL := outL_length es (2 * i) x
          obtain ⟨U, hU⟩ : ∃ U, U = wr.alloc (.cells #[.int .i64 (2 * (i : Int))] 3) := ⟨_, rfl⟩
          have hbU : Below wr.heap.size wr U := by rw [hU]; go_grown
          have hlit : U.cell? ⟨wr.heap.size, 0, none⟩ = some (.int .i64 (2 * (i : Int))) := by rw [hU]; exact one_int _ _
          have hRU := hRv.later hbU
          have hrx := hRU.2.2 x hxm
          obtain ⟨v1, D, e1, o1, gr, at1⟩ := append_int hrx hlit (by have := HBi.out.size; have := hbU.size; have := HSZ.out; omega) (by omega)
          obtain ⟨p1, l1, c1, rfl⟩ : ∃ p1 l1 c1, v1 = .slice p1 l1 c1 := by obtain ⟨p1, c1, h1, _⟩ := o1.form; exact ⟨_, _, _, h1⟩
          have HRD := hide (hRU.put hxm o1 gr at1)
          obtain ⟨hgl, z0, zf⟩ := Rows.slot hRU hxm gr
          have HBD : Hid (Below W.heap.size W (D.setCell ⟨g, x, none⟩ (.slice p1 l1 c1))) := (below_grown (below_step HBi.out hbU) hrx (by have := HSZ.out; omega) (by have := HBi.out.size; have := hbU.size; omega) gr).setCell (by have := HSZ.out; simp; omega) _
          obtain ⟨y0, yf⟩ := hRv.cell hxm
          have IX : ∀ V, (Instr.index 57 (pv (at' es i).x (at' es i).y) (.int .i64 0)).run Try.prog V = .ok (.int .i64 (at' es i).x) V := fun V => by kernel_rfl
          rw [hU] at e1
          have k1 : (x : Int) < m := by omega
          have k2 : (0 : Int) ≤ x := by omega
          have k3 : g ≠ wr.heap.size := by have := hRv.size; omega
          have k4 : g < wr.heap.size := hRv.size.2
          rw [hx] at IX ⊢
          obtain ⟨ay, hay⟩ : ∃ ay, (at' es i).y = ay := ⟨_, rfl⟩
          rw [hay] at IX ⊢
          clear hx hfx hL hU hbU hlit hRU hrx o1 gr at1 hRv HRi hay
          go_wp2_with (at_builtin; refine wpList_run_append rfl (.tmp 29) (.tmp 34) 25 rfl 25 rfl _ _ _ D rfl rfl e1 ?_)
          clear e1 y0 yf IX
          go_wp2
          go_roundw
          case rel => exact ⟨1, by omega, by go_num, HBD.out, _, by rw [show 2 * i + 1 = 2 * i + 1 by omega, hD.out]; exact HRD.out⟩
          case measure => simp [intOf]
        · have hfx : fromL es (2 * i + 1) = (at' es i).y := by unfold fromL; rw [if_neg (by omega), show (2 * i + 1) / 2 = i by omega]
          obtain ⟨x, hx⟩ : ∃ x : Nat, (at' es i).y = x := ⟨(at' es i).y.toNat, by omega⟩
          have hxm : x < m := by omega
          rw [hx] at hfx
          have hD := hide (outL_more es (2 * i + 1) hfx)
          have hL := outL_length es (2 * i + 1) x
          obtain ⟨U, hU⟩ : ∃ U, U = wr.alloc (.cells #[.int .i64 (2 * (i : Int) + 1)] 3) := ⟨_, rfl⟩
          have hbU : Below wr.heap.size wr U := by rw [hU]; go_grown
          have hlit : U.cell? ⟨wr.heap.size, 0, none⟩ = some (.int .i64 (2 * (i : Int) + 1)) := by rw [hU]; exact one_int _ _
          have hRU := hRv.later hbU
          have hrx := hRU.2.2 x hxm
          obtain ⟨v1, D, e1, o1, gr, at1⟩ := append_int hrx hlit (by have := HBi.out.size; have := hbU.size; have := HSZ.out; omega) (by omega)
          obtain ⟨p1, l1, c1, rfl⟩ : ∃ p1 l1 c1, v1 = .slice p1 l1 c1 := by obtain ⟨p1, c1, h1, _⟩ := o1.form; exact ⟨_, _, _, h1⟩
          have HRD := hide (hRU.put hxm o1 gr at1)
          obtain ⟨hgl, z0, zf⟩ := Rows.slot hRU hxm gr
          have HBD : Hid (Below W.heap.size W (D.setCell ⟨g, x, none⟩ (.slice p1 l1 c1))) := (below_grown (below_step HBi.out hbU) hrx (by have := HSZ.out; omega) (by have := HBi.out.size; have := hbU.size; omega) gr).setCell (by have := HSZ.out; simp; omega) _
          obtain ⟨y0, yf⟩ := hRv.cell hxm
          have IX : ∀ V, (Instr.index 57 (pv (at' es i).x (at' es i).y) (.int .i64 1)).run Try.prog V = .ok (.int .i64 (at' es i).y) V := fun V => by kernel_rfl
          rw [hU] at e1
          have k1 : (x : Int) < m := by omega
          have k2 : (0 : Int) ≤ x := by omega
          have k3 : g ≠ wr.heap.size := by have := hRv.size; omega
          have k4 : g < wr.heap.size := hRv.size.2
          rw [hx] at IX ⊢
          obtain ⟨ay, hay⟩ : ∃ ay, (at' es i).x = ay := ⟨_, rfl⟩
          rw [hay] at IX ⊢
          clear hx hfx hL hU hbU hlit hRU hrx o1 gr at1 hRv HRi hay
          go_wp2_with (at_builtin; refine wpList_run_append rfl (.tmp 29) (.tmp 34) 25 rfl 25 rfl _ _ _ D rfl rfl e1 ?_)
          clear e1 y0 yf IX
          go_wp2
          go_roundw
          case rel => exact ⟨2, by omega, by go_num, HBD.out, _, by rw [show 2 * i + 2 = 2 * i + 1 + 1 by omega, hD.out]; exact HRD.out⟩
          case measure => simp [intOf]
        · have HRn := hide hRv
          clear hRv HRi
          go_wp2
          go_roundw
          case rel => exact ⟨i + 1, by omega, by go_num, HBi.out, rv, by rw [show 2 * (i + 1) = 2 * i + 2 by omega]; exact HRn.out⟩
          case measure => simp [intOf]; omega
    · have hin : i = es.length := by omega
      have hlt' : ¬ (i : Int) < es.length := by omega
      rw [hin] at HR
      clear hin
      obtain ⟨rv, hrv⟩ := HR.out
      go_wp2
      go_ret
      refine ⟨g, rfl, ⟨rv, hrv.base ?_⟩, below_step HB.out HBr.out⟩
      have := HK.out
      omega
end Go.Proofs.Ytaebbfilgfkckaa
