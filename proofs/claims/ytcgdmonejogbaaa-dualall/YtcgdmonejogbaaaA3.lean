/- What find does to a tour. -/
import Derived.Test.YtcgdmonejogbaaaX5
/- Of each node the half-edges that leave it: package walk's own. -/
/- The small functions of package walk: comesTo, refusal; what find does to a tour. -/
namespace Go.Proofs.Ytcgdmonejogbaaa
open Go.RowKit Go.Sort
open Go
set_option maxHeartbeats 1000000 in
theorem comes54 (n : Int) (p : Option Addr) (es : List Pt) (cap h : Nat) (w : World) (hh : Has w p es) (hl : h < 2 * es.length) (hb : es.length ≤ 100000) : Calls Try.prog 102 #[nv n p es.length cap, .int .i64 h] w fun e w' => e = .returned (.int .i64 (toL es h)) ∧ Below w.heap.size w w' := by
  have hk : h / 2 < es.length := by omega
  rcases hh with h0 | ⟨b, off, rfl, hL⟩
  · subst h0; simp at hk
  obtain ⟨c0, c1⟩ := hL (h / 2) hk
  have zb : b < w.heap.size := block_lt_of_cell c0
  have hd : Int.tdiv (h : Int) 2 = ((h / 2 : Nat) : Int) := by rw [Int.tdiv_eq_ediv_of_nonneg (by omega)]; exact (Int.natCast_ediv h 2).symm
  have hr : Int.tmod (h : Int) 2 = ((h % 2 : Nat) : Int) := by rw [Int.tmod_eq_emod_of_nonneg (by omega)]; exact (Int.natCast_emod h 2).symm
  have HF : Hid (toL es h = if h % 2 = 0 then (at' es (h / 2)).y else (at' es (h / 2)).x) := rfl
  obtain ⟨x, hx⟩ : ∃ x, at' es (h / 2) = x := ⟨_, rfl⟩
  rw [hx] at c0 c1 HF
  have hr2 : h % 2 < 2 := by omega
  have hkl : h / 2 ≤ 100000 := by omega
  obtain ⟨q, hq⟩ : ∃ q, h / 2 = q := ⟨_, rfl⟩
  obtain ⟨r, hre⟩ : ∃ r, h % 2 = r := ⟨_, rfl⟩
  rw [hq] at c0 c1 hd hk hkl
  rw [hre] at hr HF hr2
  have i1 : (q : Int) < es.length := by omega
  have i2 : (0 : Int) ≤ q := by omega
  clear hx hL hq hre
  have h01 : r = 0 ∨ r = 1 := by omega
  rcases h01 with rfl | rfl
  · go_enter Try.func102, Try.ntmps102
    go_wp2
    go_ret
    exact ⟨retI (by rw [HF.out]; simp), by go_grown⟩
  · go_enter Try.func102, Try.ntmps102
    go_wp2
    go_ret
    exact ⟨retI (by rw [HF.out]; simp), by go_grown⟩
/-- A tour in its box: the nodes found, by which half-edge, how far, and the place where Low goes; the three lists are the call's own, each in a block of its own. -/
structure TB (w : World) (B k n : Nat) (vo : Value) (gb gf : Nat) (vl : Value) (O : List Int) (By Fa : List Int) : Prop where
  box : w.ownsRow 0 101 4 (.slice (some ⟨k, 0, none⟩) 1 1) 1 [vo, .slice (some ⟨gb, 0, none⟩) n n, .slice (some ⟨gf, 0, none⟩) n n, vl]
  ord : IOwns w B vo O
  by_ : IRow w B gb n By
  far : IRow w B gf n Fa
  ne1 : gb ≠ gf
  ne2 : vo.ownBlock ≠ some gb
  ne3 : vo.ownBlock ≠ some gf
end Go.Proofs.Ytcgdmonejogbaaa
namespace Go.Proofs.Ytcgdmonejogbaaa
open Go.RowKit Go.Sort
open Go
set_option maxRecDepth 100000 in
set_option maxHeartbeats 8000000 in
theorem outs39 (m : Nat) (p : Option Addr) (es : List Pt) (cp : Nat) (w : World) (h : Has w p es) (hm : netB m es = true) : Calls Try.prog 92 #[nv m p es.length cp] w fun e w' => ∃ g rv, e = .returned (.slice (some ⟨g, 0, none⟩) m m) ∧ Rows w' w.heap.size g m rv (outL es (2 * es.length)) ∧ Below w.heap.size w w' := by
  obtain ⟨W, hW, hb, a0⟩ := one_net w m p es.length cp
  obtain ⟨n0, n1, hes, hE⟩ := netB_is hm
  have HEE := hide hE
  have HH := hide (h.later hb)
  have HB := hide hb
  have HA := hide a0
  have hws : w.heap.size < W.heap.size := block_lt_of_cell a0.1
  have hWs : W.heap.size = w.heap.size + 1 := by rw [hW]; simp
  obtain ⟨q0, q1, _, _⟩ := a0
  clear h hb hE
  obtain ⟨i0, hi0, hz0, hz1, hz2⟩ := info_parts info41
  go_enter Try.func92, Try.ntmps92
  go_wp2_with (refine wpList_make_full _ rfl (.tmp 9) (.tmp 9) 25 rfl (w.alloc (nbx m p es.length cp)).heap.size 44 i0 (.slice none 0 0) 1 Try.underlying25 hi0 hz0 hz1 .i64 .i64 _ _ m rfl rfl rfl rfl ?c1 ?c2 ?c3 ?_)
  case c1 => rw [hz2]; omega
  case c2 => unfold maxLen; omega
  case c3 => exact Nat.le_refl _
  intro w2 hown hgrow
  have hgrow' : W.grownBy w2 none := by rw [hW]; exact hgrow
  have HR2 := hide (rows_made es hown)
  have hb2 := below_made hgrow'
  have HB2 := hide hb2
  have HSZ := hide hWs
  clear hown hgrow hgrow' hW hWs q0 q1
  obtain ⟨q0, q1, _, _⟩ := HA.out.later hb2
  clear hb2
  go_wp2_with fail
  obtain ⟨g, hg⟩ : ∃ g, w.heap.size + 1 = g := ⟨_, rfl⟩
  obtain ⟨kb, hkb⟩ : ∃ kb, w.heap.size = kb := ⟨_, rfl⟩
  rw [hg] at HR2 HSZ ⊢
  rw [hkb] at HA hws q0 q1 ⊢
  have HK := hide (And.intro hg hkb)
  clear hg hkb q0 q1
  go_loopw [14] (fun t wr => ∃ i : Nat, i ≤ es.length ∧ t = .int .i64 i ∧ Hid (Below W.heap.size W wr) ∧ Hid (∃ rv, Rows wr g g m rv (outL es (2 * i)))) (fun t _ => es.length - (intOf t).toNat)
  case atStart => exact ⟨0, by omega, rfl, HB2.out, _, HR2.out⟩
  case round =>
    obtain ⟨i, hi, rfl, HBr, HR⟩ := hrel
    by_cases hlt : i < es.length
    · obtain ⟨rv, hrv⟩ := HR.out
      obtain ⟨f0, f1, f2, f3⟩ := HEE.out i hlt
      have hq : ∃ b off, p = some ⟨b, off, none⟩ ∧ Lies W b off es := by
        rcases HH.out with h0 | h0
        · subst h0; simp at hlt
        · exact h0
      obtain ⟨b, off, rfl, hLW⟩ := hq
      obtain ⟨c0, c1⟩ := hLW.later HBr.out i hlt
      have i1 : (i : Int) < es.length := by omega
      have i2 : (0 : Int) ≤ i := by omega
      have nb : b < wr.heap.size := block_lt_of_cell c0
      go_wp2_with fail
      obtain ⟨V, hV⟩ : ∃ V, V = wr.alloc (.cells #[.int .i64 (at' es i).x, .int .i64 (at' es i).y] 64) := ⟨_, rfl⟩
      have hbV : Below wr.heap.size wr V := by rw [hV]; go_grown
      have HBV := hide (below_step HBr.out hbV)
      have HRV := hide (hrv.later hbV)
      rw [← hV]
      clear hV hbV c0 c1 hrv HR HBr
      obtain ⟨kv, hkv⟩ : ∃ kv, wr.heap.size = kv := ⟨_, rfl⟩
      rw [hkv]
      clear hkv nb
      go_loopw [20] (fun t wr => ∃ s : Nat, s ≤ 2 ∧ t = .int .i64 s ∧ Hid (Below W.heap.size W wr) ∧ Hid (∃ rv, Rows wr g g m rv (outL es (2 * i + s)))) (fun t _ => 2 - (intOf t).toNat)
      case atStart => exact ⟨0, by omega, rfl, HBV.out, rv, HRV.out⟩
      case round =>
        clear HBV HRV
        obtain ⟨s, hs, rfl, HBi, HRi⟩ := hrel
        obtain ⟨rv, hRv⟩ := HRi.out
        rcases (by omega : s = 0 ∨ s = 1 ∨ s = 2) with rfl | rfl | rfl
        · rw [Nat.add_zero] at hRv
          have hfx : fromL es (2 * i) = (at' es i).x := by unfold fromL; rw [if_pos (by omega), show 2 * i / 2 = i by omega]
          obtain ⟨x, hx⟩ : ∃ x : Nat, (at' es i).x = x := ⟨(at' es i).x.toNat, by omega⟩
          have hxm : x < m := by omega
          rw [hx] at hfx
          have hD := hide (outL_more es (2 * i) hfx)
          have hL := outL_length es (2 * i) x
          obtain ⟨U, hU⟩ : ∃ U, U = wr.alloc (.cells #[.int .i64 (2 * (i : Int))] 3) := ⟨_, rfl⟩
          have hbU : Below wr.heap.size wr U := by rw [hU]; go_grown
          have hlit : U.cell? ⟨wr.heap.size, 0, none⟩ = some (.int .i64 (2 * (i : Int))) := by rw [hU]; exact one_int _ _
          have hRU := hRv.later hbU
          have hrx := hRU.2.2 x hxm
          obtain ⟨v1, D, e1, o1, gr, at1⟩ := append_int hrx hlit (by have := HBi.out.size; have := hbU.size; have := HSZ.out; omega) (by omega)
          obtain ⟨p1, l1, c1, rfl⟩ : ∃ p1 l1 c1, v1 = .slice p1 l1 c1 := by obtain ⟨p1, c1, h1, _⟩ := o1.form; exact ⟨_, _, _, h1⟩
          have HRD := hide (hRU.put hxm o1 gr at1)
          obtain ⟨hgl, z0, zf⟩ := Rows.slot hRU hxm gr
          have HBD : Hid (Below W.heap.size W (D.setCell ⟨g, x, none⟩ (.slice p1 l1 c1))) := (below_grown (below_step HBi.out hbU) hrx (by have := HSZ.out; omega) (by have := HBi.out.size; have := hbU.size; omega) gr).setCell (by have := HSZ.out; simp; omega) _
          obtain ⟨y0, yf⟩ := hRv.cell hxm
          have IX : ∀ V, (Instr.index 64 (pv (at' es i).x (at' es i).y) (.int .i64 0)).run Try.prog V = .ok (.int .i64 (at' es i).x) V := fun V => by kernel_rfl
          rw [hU] at e1
          have k1 : (x : Int) < m := by omega
          have k2 : (0 : Int) ≤ x := by omega
          have k3 : g ≠ wr.heap.size := by have := hRv.size; omega
          have k4 : g < wr.heap.size := hRv.size.2
          rw [hx] at IX ⊢
          obtain ⟨ay, hay⟩ : ∃ ay, (at' es i).y = ay := ⟨_, rfl⟩
          rw [hay] at IX ⊢
          clear hx hfx hL hU hbU hlit hRU hrx o1 gr at1 hRv HRi hay
          go_wp2_with (at_builtin; refine wpList_run_append rfl (.tmp 29) (.tmp 34) 44 rfl 44 rfl _ _ _ D rfl rfl e1 ?_)
          clear e1 y0 yf IX
          go_wp2
          go_roundw
          case rel => exact ⟨1, by omega, by go_num, HBD.out, _, by rw [show 2 * i + 1 = 2 * i + 1 by omega, hD.out]; exact HRD.out⟩
          case measure => simp [intOf]
        · have hfx : fromL es (2 * i + 1) = (at' es i).y := by unfold fromL; rw [if_neg (by omega), show (2 * i + 1) / 2 = i by omega]
          obtain ⟨x, hx⟩ : ∃ x : Nat, (at' es i).y = x := ⟨(at' es i).y.toNat, by omega⟩
          have hxm : x < m := by omega
          rw [hx] at hfx
          have hD := hide (outL_more es (2 * i + 1) hfx)
          have hL := outL_length es (2 * i + 1) x
          obtain ⟨U, hU⟩ : ∃ U, U = wr.alloc (.cells #[.int .i64 (2 * (i : Int) + 1)] 3) := ⟨_, rfl⟩
          have hbU : Below wr.heap.size wr U := by rw [hU]; go_grown
          have hlit : U.cell? ⟨wr.heap.size, 0, none⟩ = some (.int .i64 (2 * (i : Int) + 1)) := by rw [hU]; exact one_int _ _
          have hRU := hRv.later hbU
          have hrx := hRU.2.2 x hxm
          obtain ⟨v1, D, e1, o1, gr, at1⟩ := append_int hrx hlit (by have := HBi.out.size; have := hbU.size; have := HSZ.out; omega) (by omega)
          obtain ⟨p1, l1, c1, rfl⟩ : ∃ p1 l1 c1, v1 = .slice p1 l1 c1 := by obtain ⟨p1, c1, h1, _⟩ := o1.form; exact ⟨_, _, _, h1⟩
          have HRD := hide (hRU.put hxm o1 gr at1)
          obtain ⟨hgl, z0, zf⟩ := Rows.slot hRU hxm gr
          have HBD : Hid (Below W.heap.size W (D.setCell ⟨g, x, none⟩ (.slice p1 l1 c1))) := (below_grown (below_step HBi.out hbU) hrx (by have := HSZ.out; omega) (by have := HBi.out.size; have := hbU.size; omega) gr).setCell (by have := HSZ.out; simp; omega) _
          obtain ⟨y0, yf⟩ := hRv.cell hxm
          have IX : ∀ V, (Instr.index 64 (pv (at' es i).x (at' es i).y) (.int .i64 1)).run Try.prog V = .ok (.int .i64 (at' es i).y) V := fun V => by kernel_rfl
          rw [hU] at e1
          have k1 : (x : Int) < m := by omega
          have k2 : (0 : Int) ≤ x := by omega
          have k3 : g ≠ wr.heap.size := by have := hRv.size; omega
          have k4 : g < wr.heap.size := hRv.size.2
          rw [hx] at IX ⊢
          obtain ⟨ay, hay⟩ : ∃ ay, (at' es i).x = ay := ⟨_, rfl⟩
          rw [hay] at IX ⊢
          clear hx hfx hL hU hbU hlit hRU hrx o1 gr at1 hRv HRi hay
          go_wp2_with (at_builtin; refine wpList_run_append rfl (.tmp 29) (.tmp 34) 44 rfl 44 rfl _ _ _ D rfl rfl e1 ?_)
          clear e1 y0 yf IX
          go_wp2
          go_roundw
          case rel => exact ⟨2, by omega, by go_num, HBD.out, _, by rw [show 2 * i + 2 = 2 * i + 1 + 1 by omega, hD.out]; exact HRD.out⟩
          case measure => simp [intOf]
        · have HRn := hide hRv
          clear hRv HRi
          go_wp2
          go_roundw
          case rel => exact ⟨i + 1, by omega, by go_num, HBi.out, rv, by rw [show 2 * (i + 1) = 2 * i + 2 by omega]; exact HRn.out⟩
          case measure => simp [intOf]; omega
    · have hin : i = es.length := by omega
      have hlt' : ¬ (i : Int) < es.length := by omega
      rw [hin] at HR
      clear hin
      obtain ⟨rv, hrv⟩ := HR.out
      go_wp2
      go_ret
      refine ⟨g, rfl, ⟨rv, hrv.base ?_⟩, below_step HB.out HBr.out⟩
      have := HK.out
      omega
end Go.Proofs.Ytcgdmonejogbaaa
namespace Go.Proofs.Ytcgdmonejogbaaa
open Go.RowKit Go.Sort
open Go
/-- All blocks that were there are as they were, but for those that are named. -/
structure Frame (w w' : World) (p : Nat → Prop) : Prop where
  os : w'.os = w.os
  tape : w'.tape = w.tape
  output : w'.output = w.output
  size : w.heap.size ≤ w'.heap.size
  block : ∀ i, i < w.heap.size → ¬ p i → w'.heap[i]? = w.heap[i]?
theorem Frame.below {w w' : World} {p : Nat → Prop} {B : Nat} (h : Frame w w' p) (hB : B ≤ w.heap.size) (hp : ∀ i, p i → B ≤ i) : Below B w w' :=
  ⟨h.os, h.tape, h.output, h.size, fun i hi => h.block i (by omega) (fun k => by have := hp i k; omega)⟩
theorem Frame.row {w w' : World} {p : Nat → Prop} {base e size n : Nat} {v : Value} {xs : List Value} (h : Frame w w' p) (o : w.ownsRow base e size v n xs) (hp : ∀ i, v.ownBlock = some i → ¬ p i) : w'.ownsRow base e size v n xs := by
  obtain ⟨h0, ⟨h1, h2⟩ | ⟨g, cap, cur, h1, h2, h3, h4⟩⟩ := o
  · exact ⟨h0, Or.inl ⟨h1, h2⟩⟩
  · refine ⟨h0, Or.inr ⟨g, cap, cur, h1, h2, ?_, h4⟩⟩
    rw [h.block g (Array.getElem?_eq_some_iff.1 h3).1 (hp g (by rw [h1]; rfl))]
    exact h3
theorem Frame.rows {w w' : World} {p : Nat → Prop} {B g n : Nat} {rv : Nat → Value} {L : Nat → List Int} (h : Frame w w' p) (o : Rows w B g n rv L) (hg : ¬ p g) (hp : ∀ v i, v < n → (rv v).ownBlock = some i → ¬ p i) : Rows w' B g n rv L :=
  ⟨h.row o.1 (fun i hi => by simp [Value.ownBlock] at hi; rw [← hi]; exact hg), o.2.1, fun v hv => h.row (o.2.2 v hv) (fun i hi => hp v i hv hi)⟩
theorem Frame.iowns {w w' : World} {p : Nat → Prop} {B : Nat} {v : Value} {L : List Int} (h : Frame w w' p) (o : IOwns w B v L) (hp : ∀ i, v.ownBlock = some i → ¬ p i) : IOwns w' B v L := h.row o hp
theorem Frame.of_below {w w' : World} (h : Below w.heap.size w w') (p : Nat → Prop) : Frame w w' p := ⟨h.os, h.tape, h.output, h.size, fun i hi _ => h.block i hi⟩
theorem Frame.trans {a b c : World} {p : Nat → Prop} (h : Frame a b p) (k : Frame b c p) : Frame a c p :=
  ⟨k.os.trans h.os, k.tape.trans h.tape, k.output.trans h.output, Nat.le_trans h.size k.size, fun i hi hp => (k.block i (Nat.lt_of_lt_of_le hi h.size) hp).trans (h.block i hi hp)⟩
theorem Frame.set (w : World) (a : Addr) (v : Value) {p : Nat → Prop} (hp : p a.block) : Frame w (w.setCell a v) p :=
  ⟨rfl, rfl, rfl, by simp [World.setCell], fun _ _ hi => Below.heap_setCell _ _ _ _ (fun e => hi (by first | (rw [e]; exact hp) | (rw [← e]; exact hp)))⟩
theorem Frame.grown {w w' : World} {r : Option Nat} {p : Nat → Prop} (h : w.grownBy w' r) (hp : ∀ i, r = some i → p i) : Frame w w' p :=
  ⟨h.os, h.tape, h.output, h.size, fun i hi hn => h.block i hi (fun e => hn (hp i e.symm))⟩
/-- The blocks of a tour. -/
def TBk (k gb gf : Nat) (vo : Value) (i : Nat) : Prop := i = k ∨ i = gb ∨ i = gf ∨ vo.ownBlock = some i
theorem TB.cells {w : World} {B k n : Nat} {vo : Value} {gb gf : Nat} {vl : Value} {O By Fa : List Int} (h : TB w B k n vo gb gf vl O By Fa) : w.cell? ⟨k, 0, none⟩ = some vo ∧ w.cell? ⟨k, 1, none⟩ = some (.slice (some ⟨gb, 0, none⟩) n n) ∧ w.cell? ⟨k, 2, none⟩ = some (.slice (some ⟨gf, 0, none⟩) n n) ∧ w.cell? ⟨k, 3, none⟩ = some vl ∧ w.frozen? ⟨k, 0, none⟩ = false ∧ w.frozen? ⟨k, 3, none⟩ = false :=
  ⟨World.ownsRow.cellAt h.box 0 (by omega), World.ownsRow.cellAt h.box 1 (by omega), World.ownsRow.cellAt h.box 2 (by omega), World.ownsRow.cellAt h.box 3 (by omega), World.ownsRow.frozenAt h.box 0, World.ownsRow.frozenAt h.box 3⟩
theorem TB.later {w w' : World} {B k n : Nat} {vo : Value} {gb gf : Nat} {vl : Value} {O By Fa : List Int} (h : TB w B k n vo gb gf vl O By Fa) (hb : Below w.heap.size w w') : TB w' B k n vo gb gf vl O By Fa :=
  ⟨World.ownsRow.kept h.box (grown_below hb) (Or.inr (by simp [Value.ownBlock])), h.ord.later hb, h.by_.later hb, h.far.later hb, h.ne1, h.ne2, h.ne3⟩
theorem TB.kne {w : World} {B k n : Nat} {vo : Value} {gb gf : Nat} {vl : Value} {O By Fa : List Int} (h : TB w B k n vo gb gf vl O By Fa) : gb ≠ k ∧ gf ≠ k ∧ vo.ownBlock ≠ some k := by
  obtain ⟨cur, hk⟩ := row_kind h.box
  have h1 := row_apart hk h.by_.2 (by decide)
  have h2 := row_apart hk h.far.2 (by decide)
  have h3 := row_apart hk h.ord (by decide)
  exact ⟨fun e => h1 (by rw [← e]; rfl), fun e => h2 (by rw [← e]; rfl), h3⟩
set_option maxRecDepth 100000 in
set_option maxHeartbeats 8000000 in
theorem find53 (B k n : Nat) (vo : Value) (gb gf : Nat) (vl : Value) (O By Fa : List Int) (v : Nat) (h far : Int) (w : World) (t : TB w B k n vo gb gf vl O By Fa) (hv : v < n) (hB : B ≤ w.heap.size) (hl : O.length ≤ 90000) :
    Calls Try.prog 101 #[.pointer (some ⟨k, 0, none⟩), .int .i64 v, .int .i64 h, .int .i64 far] w fun e w' => e = .returned (.tuple #[]) ∧ ∃ vo', TB w' B k n vo' gb gf vl (O ++ [(v : Int)]) (By.set v h) (Fa.set v far) ∧ Frame w w' (TBk k gb gf vo) ∧ (vo'.ownBlock = vo.ownBlock ∨ ∃ i, vo'.ownBlock = some i ∧ w.heap.size ≤ i) := by
  obtain ⟨n1, n2, n3⟩ := t.kne
  obtain ⟨U, hU⟩ : ∃ U, U = w.alloc (.cells #[.int .i64 v] 3) := ⟨_, rfl⟩
  have hbU : Below w.heap.size w U := by rw [hU]; go_grown
  have hsU : U.heap.size = w.heap.size + 1 := by rw [hU]; simp
  have hlit : U.cell? ⟨w.heap.size, 0, none⟩ = some (.int .i64 v) := by rw [hU]; exact one_int _ _
  have tU := t.later hbU
  obtain ⟨v1, D, e1, o1, gr, at1⟩ := append_int tU.ord hlit (by omega) hl
  obtain ⟨p1, l1, c1, rfl⟩ : ∃ p1 l1 c1, v1 = .slice p1 l1 c1 := by obtain ⟨p1, c1, h1, _⟩ := o1.form; exact ⟨_, _, _, h1⟩
  obtain ⟨p0, l0, c0, rfl⟩ : ∃ p0 l0 c0, vo = .slice p0 l0 c0 := by obtain ⟨p1, c1, h1, _⟩ := t.ord.form; exact ⟨_, _, _, h1⟩
  -- the world behind the append
  have dbox := World.ownsRow.kept tU.box gr (Or.inr (fun e => n3 (by rw [← e]; rfl)))
  have dby : IRow D B gb n By := ⟨tU.by_.1, World.ownsRow.kept tU.by_.2 gr (Or.inr (fun e => tU.ne2 (by rw [← e]; rfl)))⟩
  have dfa : IRow D B gf n Fa := ⟨tU.far.1, World.ownsRow.kept tU.far.2 gr (Or.inr (fun e => tU.ne3 (by rw [← e]; rfl)))⟩
  have hk1 : (Value.slice p1 l1 c1).ownBlock ≠ some k := by obtain ⟨cur, hk⟩ := row_kind dbox; exact row_apart hk o1 (by decide)
  have hg1 : (Value.slice p1 l1 c1).ownBlock ≠ some gb := by
    rcases at1 with e | e
    · rw [e]; exact t.ne2
    · rw [e, hsU]; have := t.by_.lt; intro e'; injection e' with e'; omega
  have hf1 : (Value.slice p1 l1 c1).ownBlock ≠ some gf := by
    rcases at1 with e | e
    · rw [e]; exact t.ne3
    · rw [e, hsU]; have := t.far.lt; intro e'; injection e' with e'; omega
  -- and behind the stores
  obtain ⟨D1, hD1⟩ : ∃ D1, D1 = D.setCell ⟨k, 0, none⟩ (.slice p1 l1 c1) := ⟨_, rfl⟩
  have b1 : D1.ownsRow 0 101 4 (.slice (some ⟨k, 0, none⟩) 1 1) 1 [.slice p1 l1 c1, .slice (some ⟨gb, 0, none⟩) n n, .slice (some ⟨gf, 0, none⟩) n n, vl] := by rw [hD1]; exact (World.ownsRow.stored dbox 0 _).1
  have t1 : TB D1 B k n (.slice p1 l1 c1) gb gf vl (O ++ [(v : Int)]) By Fa := ⟨b1, by rw [hD1]; exact ownsRow_setCell_other o1 hk1 _, by rw [hD1]; exact irow_other dby (Ne.symm n1) _, by rw [hD1]; exact irow_other dfa (Ne.symm n2) _, t.ne1, hg1, hf1⟩
  have fr1 : Frame w D1 (TBk k gb gf (.slice p0 l0 c0)) := by
    rw [hD1]
    exact ((Frame.of_below hbU _).trans (Frame.grown gr (fun i e => Or.inr (Or.inr (Or.inr e))))).trans (Frame.set _ _ _ (Or.inl rfl))
  have HT1 := hide t1
  have HFR := hide fr1
  have HAT : Hid ((Value.slice p1 l1 c1).ownBlock = (Value.slice p0 l0 c0).ownBlock ∨ ∃ i, (Value.slice p1 l1 c1).ownBlock = some i ∧ w.heap.size ≤ i) := at1.imp id (fun e => ⟨_, e, by omega⟩)
  have HNE := hide t.ne1
  obtain ⟨x0, x1, x2, x3, x4, _⟩ := t.cells
  have k1 : k < w.heap.size := block_lt_of_cell x0
  have k2 : k ≠ w.heap.size := by omega
  rw [hU] at e1
  obtain ⟨y0, y1, y2, y3, y4, _⟩ := (t1.later (Below.refl _ _)).cells
  have z0 : D.cell? ⟨k, 0, none⟩ = some (.slice p0 l0 c0) := World.ownsRow.cellAt dbox 0 (by omega)
  have z4 : D.frozen? ⟨k, 0, none⟩ = false := World.ownsRow.frozenAt dbox 0
  obtain ⟨g0, g1⟩ := t1.by_.cell hv
  obtain ⟨g2, g3⟩ := t1.far.cell hv
  have i1 : (v : Int) < n := by omega
  have i2 : (0 : Int) ≤ v := by omega
  have HN := hide (And.intro n1 n2)
  clear t tU hbU hlit o1 gr at1 dbox dby dfa hk1 hg1 hf1 b1 fr1 hsU t1 hU n3
  go_enter Try.func101, Try.ntmps101
  go_wp2_with (at_builtin; refine wpList_run_append rfl (.tmp 12) (.tmp 14) 44 rfl 44 rfl _ _ _ D rfl rfl e1 ?_)
  clear e1 x0 x1 x2 x3 x4
  go_wp2_with fail
  rw [← hD1]
  have HS : Hid (D1.cell? ⟨k, 1, none⟩ = some (.slice (some ⟨gb, 0, none⟩) n n) ∧ D1.cell? ⟨k, 2, none⟩ = some (.slice (some ⟨gf, 0, none⟩) n n)) := ⟨y1, y2⟩
  have nk1 : k ≠ gb := Ne.symm HN.out.1
  have nk2 : k ≠ gf := Ne.symm HN.out.2
  have nbf := HNE.out
  have nfb : gf ≠ gb := Ne.symm nbf
  clear z0 z4 y0 y3 y4 hD1 k1 k2
  go_region_held3 (fun V => V.cell? ⟨k, 1, none⟩ = some (.slice (some ⟨gb, 0, none⟩) n n) ∧ V.cell? ⟨k, 2, none⟩ = some (.slice (some ⟨gf, 0, none⟩) n n))
    (first | exact HS.out | exact ⟨cell_other HS.out.1 nk1, cell_other HS.out.2 nk1⟩ | exact ⟨cell_other (cell_other HS.out.1 nk1) nk2, cell_other (cell_other HS.out.2 nk1) nk2⟩)
    (fail)
  rename_i hHeld
  clear hHeld
  obtain ⟨V, hV⟩ : ∃ V, V = ((D1.setCell ⟨gb, v, none⟩ (.int .i64 h)).setCell ⟨gf, v, none⟩ (.int .i64 far)).drew := ⟨_, rfl⟩
  have tV : TB V B k n (.slice p1 l1 c1) gb gf vl (O ++ [(v : Int)]) (By.set v h) (Fa.set v far) := by
    rw [hV]
    have t1 := HT1.out
    refine TB.later (w := (D1.setCell ⟨gb, v, none⟩ (.int .i64 h)).setCell ⟨gf, v, none⟩ (.int .i64 far)) ?_ (by go_grown)
    refine ⟨?_, ?_, ?_, ?_, t1.ne1, t1.ne2, t1.ne3⟩
    · exact ownsRow_setCell_other (a := ⟨gf, v, none⟩) (ownsRow_setCell_other (a := ⟨gb, v, none⟩) t1.box (by simp [Value.ownBlock]; omega) _) (by simp [Value.ownBlock]; omega) _
    · exact ownsRow_setCell_other (a := ⟨gf, v, none⟩) (ownsRow_setCell_other (a := ⟨gb, v, none⟩) t1.ord t1.ne2 _) t1.ne3 _
    · exact irow_other (t1.by_.set v h) nfb _
    · exact (irow_other t1.far nbf _).set v far
  have frV : Frame w V (TBk k gb gf (.slice p0 l0 c0)) := by
    rw [hV]
    exact ((HFR.out.trans (Frame.set _ ⟨gb, v, none⟩ _ (Or.inr (Or.inl rfl)))).trans (Frame.set _ ⟨gf, v, none⟩ _ (Or.inr (Or.inr (Or.inl rfl))))).trans (Frame.of_below (by go_grown) _)
  rw [← hV]
  clear hV
  go_wp2
  go_end0
  exact ⟨rfl, _, tV, frV, HAT.out⟩
end Go.Proofs.Ytcgdmonejogbaaa
