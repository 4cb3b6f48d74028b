/- kura's chosen, in every world. -/
import Derived.Test.YtaebbfilgfkckaaKC1
namespace Go.Proofs.Ytaebbfilgfkckaa
open Go.RowKit Go.Sort
open Go
/-- A map of paths, with the slices that it holds. -/
structure WMf (w : World) (B T b : Nat) (P : Pt → List Int) (f : Pt → Value) : Prop where
  ok : ∃ ms clock, w.heap[b]? = some (.map ms clock) ∧ MapV ms clock f
  nil : ∀ p, Good p → P p = [] → f p = nilV
  own : ∀ p, Good p → P p ≠ [] → ∃ g c, f p = .slice (some ⟨g, 0, none⟩) (P p).length c ∧ g < T ∧ IOwns w B (.slice (some ⟨g, 0, none⟩) (P p).length c) (P p)
  inj : ∀ p q j, Good p → Good q → (f p).ownBlock = some j → (f q).ownBlock = some j → p = q
theorem WM.f {w : World} {B T b : Nat} {P : Pt → List Int} (h : WM w B T b P) : ∃ f, WMf w B T b P f := by
  obtain ⟨_, ms, clock, f, h1, h2, h3, h4, h5⟩ := h
  exact ⟨f, ⟨ms, clock, h1, h2⟩, h3, h4, h5⟩
theorem WMf.later {w w' : World} {B T b : Nat} {P : Pt → List Int} {f : Pt → Value} (h : WMf w B T b P f) (hb : Below w.heap.size w w') : WMf w' B T b P f := by
  obtain ⟨ms, clock, h1, h2⟩ := h.ok
  exact ⟨⟨ms, clock, block_at hb h1, h2⟩, h.nil, fun p hp hn => by obtain ⟨g, c, e1, e2, e3⟩ := h.own p hp hn; exact ⟨g, c, e1, e2, e3.later hb⟩, h.inj⟩
set_option maxRecDepth 100000 in
theorem WMf.look {w : World} {B T b : Nat} {P : Pt → List Int} {f : Pt → Value} (h : WMf w B T b P f) {x y : Int} (hp : Good ⟨x, y⟩) : (Instr.lookup 93 (.map (some b)) (.agg #[.int .i64 x, .int .i64 y]) false).run Try.prog w = .ok (f ⟨x, y⟩) w := by
  obtain ⟨ms, clock, h1, h2⟩ := h.ok
  exact look93 h2 h1 hp
/-- A list that stands elsewhere is laid into a row. -/
theorem Rows.layAt {w : World} {B g n a : Nat} {rv : Nat → Value} {L : Nat → List Int} {l' : List Int} {v' : Value} (h : Rows w B g n rv L) (o : IOwns w B v' l') (hd : ∀ j k, j < n → j ≠ a → v'.ownBlock = some k → (rv j).ownBlock ≠ some k) : Rows (w.setCell ⟨g, a, none⟩ v') B g n (upd rv a v') (upd L a l') := by
  obtain ⟨h1, h2, h3⟩ := h
  obtain ⟨cur, hg⟩ := row_kind h1
  refine ⟨?_, ?_, ?_⟩
  · have q := (World.ownsRow.stored h1 a v').1
    rw [show ((List.range n).map (upd rv a v')) = ((List.range n).map rv).set a v' from ?_]
    · exact q
    apply List.ext_getElem
    · simp
    intro i h4 h5
    simp only [List.getElem_map, List.getElem_range, List.getElem_set]
    by_cases hia : a = i
    · subst hia; simp [upd]
    · rw [if_neg hia, upd_other _ _ (fun e => hia e.symm)]
  · intro u v k hu hv' e1 e2
    by_cases hua : u = a <;> by_cases hva : v = a
    · omega
    · rw [hua, upd_same] at e1
      rw [upd_other _ _ hva] at e2
      exact absurd e2 (hd v k hv' hva e1)
    · rw [hva, upd_same] at e2
      rw [upd_other _ _ hua] at e1
      exact absurd e1 (hd u k hu hua e2)
    · rw [upd_other _ _ hua] at e1
      rw [upd_other _ _ hva] at e2
      exact h2 u v k hu hv' e1 e2
  · intro v hv'
    by_cases hva : v = a
    · rw [hva, upd_same, upd_same]
      exact ownsRow_setCell_other (a := ⟨g, a, none⟩) o (row_apart hg o (by decide)) _
    · rw [upd_other _ _ hva, upd_other _ _ hva]
      exact ownsRow_setCell_other (a := ⟨g, a, none⟩) (h3 v hv') (row_apart hg (h3 v hv') (by decide)) _
theorem Rows.congr {w : World} {B g n : Nat} {rv : Nat → Value} {L L' : Nat → List Int} (h : Rows w B g n rv L) (he : ∀ v, v < n → L v = L' v) : Rows w B g n rv L' := ⟨h.1, h.2.1, fun v hv => by rw [← he v hv]; exact h.2.2 v hv⟩
theorem Rows.vals {w : World} {B g n : Nat} {rv rv' : Nat → Value} {L : Nat → List Int} (h : Rows w B g n rv L) (he : ∀ v, v < n → rv v = rv' v) : Rows w B g n rv' L := by
  obtain ⟨h1, h2, h3⟩ := h
  refine ⟨?_, fun u v k hu hv e1 e2 => h2 u v k hu hv (by rw [he u hu]; exact e1) (by rw [he v hv]; exact e2), fun v hv => by rw [← he v hv]; exact h3 v hv⟩
  rw [show (List.range n).map rv' = (List.range n).map rv from List.map_congr_left fun x hx => (he x (List.mem_range.1 hx)).symm]
  exact h1
theorem rows_none {w : World} {base g n : Nat} (h : w.ownsRow base 25 1 (.slice (some ⟨g, 0, none⟩) n n) n (madeCells #[.slice none 0 0] n).toList) : Rows w base g n (fun _ => .slice none 0 0) (fun _ => []) := by
  rw [toList_madeCells_one] at h
  refine ⟨?_, fun u v k _ _ h1 _ => by simp [Value.ownBlock] at h1, fun _ _ => IOwns.nil _ _⟩
  rw [show ((List.range n).map fun _ => Value.slice none 0 0) = List.replicate n (.slice none 0 0) from by apply List.ext_getElem <;> simp]
  exact h
/-- The pair of branch nodes at two places. -/
def keyP (br : List Int) (js : List Pt) (i : Nat) : Pt := ⟨iat br (at' js i).x.toNat, iat br (at' js i).y.toNat⟩
/-- What chosen answers. -/
def ChPost (P : Pt → List Int) (br : List Int) (js : List Pt) (B T : Nat) (v : Value) (w' : World) : Prop :=
  ((∃ i, i < js.length ∧ P (keyP br js i) = []) ∧ v = .slice none 0 0) ∨ ((∀ i, i < js.length → P (keyP br js i) ≠ []) ∧ ∃ g rv, v = .slice (some ⟨g, 0, none⟩) js.length js.length ∧ Rows w' B g js.length rv (fun i => P (keyP br js i)) ∧ ∀ i k, i < js.length → (rv i).ownBlock = some k → k < T)
set_option maxRecDepth 100000 in
set_option maxHeartbeats 16000000 in
theorem chosen61 (pb : Option Addr) (br : List Int) (cb : Nat) (pj : Option Addr) (js : List Pt) (cj B T b : Nat) (P : Pt → List Int) (w : World) (hbr : IHas w pb br) (hj : Has w pj js) (hw : WM w B T b P) (hB : B ≤ w.heap.size) (hin : ∀ j, j < br.length → 0 ≤ iat br j ∧ iat br j ≤ 4096) (hpl : ∀ i, i < js.length → ∃ x y : Nat, at' js i = ⟨x, y⟩ ∧ x < br.length ∧ y < br.length) (hl : js.length ≤ 1000) (hone : ∀ i j, i < js.length → j < js.length → keyP br js i = keyP br js j → i = j) : Calls Try.prog 61 #[.map (some b), .slice pb br.length cb, .slice pj js.length cj] w fun e w' => ∃ v, e = .returned v ∧ ChPost P br js B T v w' ∧ Below w.heap.size w w' := by
  obtain ⟨f, hf⟩ := hw.f
  have HF := hide hf
  have HBR := hide hbr
  have HJ := hide hj
  have HIN := hide hin
  have HPL := hide hpl
  have HONE := hide hone
  clear hbr hj hw hin hpl hone hf
  obtain ⟨i0, hi0, hz0, hz1, hz2⟩ := info_parts info41
  go_enter Try.func61, Try.ntmps61
  go_wp2_with (refine wpList_make_full _ rfl (.tmp 11) (.tmp 11) 30 rfl w.heap.size 25 i0 (.slice none 0 0) 1 Try.underlying30 hi0 hz0 hz1 .i64 .i64 _ _ js.length rfl rfl rfl rfl ?c1 ?c2 ?c3 ?_)
  case c1 => rw [hz2]; omega
  case c2 => unfold maxLen; omega
  case c3 => exact Nat.le_refl _
  intro w2 hown hgrow
  have hR0 : Rows w2 w.heap.size w.heap.size js.length (fun _ => .slice none 0 0) (fun _ => []) := rows_none hown
  have HR0 := hide (hR0.base hB)
  have HB2 := hide (below_made hgrow)
  clear hown hgrow hR0
  obtain ⟨gr, hgr⟩ : ∃ k, w.heap.size = k := ⟨_, rfl⟩
  have HGR := hide hgr
  rw [hgr] at HR0 ⊢
  clear hgr
  go_wp2_with fail
  go_loopw [15] (fun t15 wr => ∃ k : Nat, k ≤ js.length ∧ t15 = .int .i64 k ∧ Hid (Below w.heap.size w wr) ∧ Hid (∀ i, i < k → P (keyP br js i) ≠ []) ∧ Hid (Rows wr B gr js.length (fun i => if i < k then f (keyP br js i) else .slice none 0 0) (fun i => if i < k then P (keyP br js i) else []))) (fun t15 _ => js.length - (intOf t15).toNat)
  case atStart => exact ⟨0, by omega, rfl, HB2.out, fun i hi => by omega, (HR0.out.congr fun v _ => by simp).vals fun v _ => by simp⟩
  case round =>
    obtain ⟨k, hk, rfl, HBr, HNr, HRr⟩ := hrel
    clear HR0 HB2
    by_cases hlt : k < js.length
    · have j1 : (k : Int) < js.length := by omega
      have j0 : (0 : Int) ≤ k := by omega
      obtain ⟨x, y, hxy, hx, hy⟩ := HPL.out k hlt
      obtain ⟨b1, o1, rfl, hL1⟩ : ∃ b1 off, pj = some ⟨b1, off, none⟩ ∧ Lies w b1 off js := by
        rcases HJ.out with e | e
        · rw [e] at hlt; simp at hlt
        · exact e
      obtain ⟨b2, o2, rfl, hL2⟩ : ∃ b1 off, pb = some ⟨b1, off, none⟩ ∧ ILies w b1 off br := by
        rcases HBR.out with e | e
        · rw [e] at hx; simp at hx
        · exact e
      obtain ⟨c0, c1⟩ := hL1.later HBr.out k hlt
      have c2 := later HBr.out (hL2 x hx)
      have c3 := later HBr.out (hL2 y hy)
      have nb1 : b1 < wr.heap.size := block_lt_of_cell c0
      have nb2 : b2 < wr.heap.size := block_lt_of_cell c2
      have HKEY : Hid (keyP br js k = ⟨iat br x, iat br y⟩) := by show keyP br js k = _; unfold keyP; rw [hxy]; rfl
      have ix := HIN.out x hx
      have iy := HIN.out y hy
      rw [hxy] at c0 c1
      obtain ⟨ax, hax⟩ : ∃ z, iat br x = z := ⟨_, rfl⟩
      obtain ⟨ay, hay⟩ : ∃ z, iat br y = z := ⟨_, rfl⟩
      rw [hax] at c2 ix HKEY
      rw [hay] at c3 iy HKEY
      have hgd : Good ⟨ax, ay⟩ := ⟨ix.1, ix.2, iy.1, iy.2⟩
      obtain ⟨r0, r1⟩ := HRr.out.cell hlt
      have r2 := HRr.out.size.2
      rw [if_neg (Nat.lt_irrefl k)] at r0
      have hxl : (x : Int) < br.length := by omega
      have hyl : (y : Int) < br.length := by omega
      clear hxy hL1 hL2 hax hay
      go_upto_region 5 with fail
      obtain ⟨V, hV⟩ : ∃ V, V = wr.alloc (.cells #[.int .i64 (x : Int), .int .i64 (y : Int)] 57) := ⟨_, rfl⟩
      have hbV : Below wr.heap.size wr V := by rw [hV]; go_grown
      have g0 : V.cell? ⟨wr.heap.size, 0, none⟩ = some (.int .i64 (x : Int)) := by rw [hV]; go_cell
      have g1 : V.cell? ⟨wr.heap.size, 1, none⟩ = some (.int .i64 (y : Int)) := by rw [hV]; go_cell
      have hBV := below_step HBr.out hbV
      have HLK := hide ((HF.out.later (hBV.drew)).look (x := ax) (y := ay) hgd)
      have hRV := HRr.out.later hbV
      have HFV := hide (HF.out.later hBV)
      have d2 := later hbV c2
      have d3 := later hbV c3
      obtain ⟨s0, s1⟩ := hRV.cell hlt
      have s2 := hRV.size.2
      have hne : ¬ wr.heap.size = gr := by omega
      rw [if_neg (Nat.lt_irrefl k)] at s0
      rw [← hV]
      have HRV := hide hRV
      have HBV := hide hBV
      obtain ⟨kv, hkv⟩ : ∃ kv, wr.heap.size = kv := ⟨_, rfl⟩
      rw [hkv] at g0 g1 hne ⊢
      clear hV hbV hBV c0 c1 c2 c3 r0 r1 r2 nb1 nb2 HRr HBr hRV hkv
      by_cases hP : P ⟨ax, ay⟩ = []
      · have hfn := HFV.out.nil _ hgd hP
        have hlk := HLK.out
        rw [hfn] at hlk
        have HR2 : Hid (∃ i, i < js.length ∧ P (keyP br js i) = []) := ⟨k, hlt, by rw [HKEY.out]; exact hP⟩
        have HST := hide (HRV.out.layAt (a := k) (v' := .slice none 0 0) (l' := []) (IOwns.nil _ _) (fun j k _ _ h => by simp [Value.ownBlock] at h))
        clear hP hfn HLK HNr
        go_region
        obtain ⟨E, hE⟩ : ∃ E, E = (V.setCell ⟨gr, k, none⟩ (.slice none 0 0)).drew := ⟨_, rfl⟩
        have hbE : Below w.heap.size w E := by rw [hE]; exact (HBV.out.setCell (by have := HGR.out; simp; omega) _).drew
        have e0 : E.cell? ⟨gr, k, none⟩ = some (.slice none 0 0) := by
          have := (Rows.later HST.out (below_drew _)).cell hlt
          rw [upd_same] at this
          rw [hE]; exact this.1
        have q1 := eql25n E
        have HBE := hide hbE
        rw [← hE]
        clear hE hlk g0 g1 d2 d3 s0 s1 s2 hbE
        go_wp2
        go_ret
        exact ⟨_, rfl, Or.inl ⟨HR2.out, rfl⟩, HBE.out⟩
      · obtain ⟨gk, ck, hfs, _, hown⟩ := HFV.out.own _ hgd hP
        have hlk := HLK.out
        rw [hfs] at hlk
        have HNX : Hid (∀ i, i < k + 1 → P (keyP br js i) ≠ []) := fun i hi => by
          by_cases e : i = k
          · rw [e, HKEY.out]; exact hP
          · exact HNr.out i (by omega)
        have HST : Hid (Rows (V.setCell ⟨gr, k, none⟩ (.slice (some ⟨gk, 0, none⟩) (P ⟨ax, ay⟩).length ck)) B gr js.length (fun i => if i < k + 1 then f (keyP br js i) else .slice none 0 0) (fun i => if i < k + 1 then P (keyP br js i) else [])) := by
          have h := HRV.out.layAt (a := k) hown (fun j q hj hjk h1 h2 => by
            by_cases hjl : j < k
            · rw [if_pos hjl] at h2
              have hg2 : Good (keyP br js j) := by
                obtain ⟨x', y', e', hx', hy'⟩ := HPL.out j hj
                have i1 := HIN.out x' hx'
                have i2 := HIN.out y' hy'
                unfold keyP
                rw [e']
                simp only [Int.toNat_natCast]
                exact ⟨i1.1, i1.2, i2.1, i2.2⟩
              have := HFV.out.inj _ _ q hg2 hgd h2 (by rw [hfs]; exact h1)
              exact hjk (HONE.out j k hj hlt (by rw [this, HKEY.out]))
            · rw [if_neg hjl] at h2; simp [Value.ownBlock] at h2)
          refine (h.congr fun v _ => ?_).vals fun v _ => ?_
          · by_cases hvk : v = k
            · rw [hvk, upd_same, if_pos (by omega), HKEY.out]
            · rw [upd_other _ _ hvk]
              by_cases hl : v < k
              · rw [if_pos hl, if_pos (by omega)]
              · rw [if_neg hl, if_neg (by omega)]
          · by_cases hvk : v = k
            · rw [hvk, upd_same, if_pos (by omega), HKEY.out, hfs]
            · rw [upd_other _ _ hvk]
              by_cases hl : v < k
              · rw [if_pos hl, if_pos (by omega)]
              · rw [if_neg hl, if_neg (by omega)]
        obtain ⟨lk, hlk2⟩ : ∃ z, (P ⟨ax, ay⟩).length = z := ⟨_, rfl⟩
        rw [hlk2] at hlk HST
        have HVAL : Hid (f (keyP br js k) = .slice (some ⟨gk, 0, none⟩) lk ck) := by show _ = _; rw [HKEY.out, hfs, hlk2]
        clear hP hfs hown HLK HNr hlk2
        go_region
        obtain ⟨E, hE⟩ : ∃ E, E = (V.setCell ⟨gr, k, none⟩ (.slice (some ⟨gk, 0, none⟩) lk ck)).drew := ⟨_, rfl⟩
        have hbE : Below w.heap.size w E := by rw [hE]; exact (HBV.out.setCell (by have := HGR.out; simp; omega) _).drew
        have hRE := Rows.later HST.out (below_drew _)
        rw [← hE] at hRE
        have e0 : E.cell? ⟨gr, k, none⟩ = some (.slice (some ⟨gk, 0, none⟩) lk ck) := by
          have := hRE.cell hlt
          rw [if_pos (by omega), HVAL.out] at this
          exact this.1
        have q1 := eql25s E ⟨gk, 0, none⟩ lk ck
        have HBE := hide hbE
        have HRE := hide hRE
        rw [← hE]
        clear hE hlk g0 g1 d2 d3 s0 s1 s2 hbE hRE
        go_wp2
        go_roundw
        case rel => exact ⟨k + 1, by omega, by go_num, HBE.out, HNX.out, HRE.out⟩
        case measure => simp [intOf]; omega
    · have j1 : ¬ (k : Int) < js.length := by omega
      have hke : k = js.length := by omega
      subst hke
      have HTB : Hid (∀ i k, i < js.length → (f (keyP br js i)).ownBlock = some k → k < T) := fun i k hi hk2 => by
        have hg2 : Good (keyP br js i) := by
          obtain ⟨x', y', e', hx', hy'⟩ := HPL.out i hi
          have i1 := HIN.out x' hx'
          have i2 := HIN.out y' hy'
          unfold keyP
          rw [e']
          simp only [Int.toNat_natCast]
          exact ⟨i1.1, i1.2, i2.1, i2.2⟩
        obtain ⟨g, c, e1, e2, _⟩ := HF.out.own _ hg2 (HNr.out i hi)
        rw [e1] at hk2
        have : g = k := by simpa [Value.ownBlock] using hk2
        omega
      have HRF : Hid (Rows wr B gr js.length (fun i => f (keyP br js i)) (fun i => P (keyP br js i))) := (HRr.out.congr fun v hv => if_pos hv).vals fun v hv => if_pos hv
      clear HRr
      go_wp2
      go_ret
      exact ⟨_, rfl, Or.inr ⟨HNr.out, gr, _, rfl, HRF.out, HTB.out⟩, HBr.out⟩
end Go.Proofs.Ytaebbfilgfkckaa
