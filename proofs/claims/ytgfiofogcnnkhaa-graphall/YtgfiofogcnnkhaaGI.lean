/- setEnd. -/
import Derived.Test.YtgfiofogcnnkhaaGH
namespace Go.Proofs.Ytgfiofogcnnkhaa
open Go.RowKit Go.Sort
open Go

theorem own_some {w : World} {B e size n : Nat} {p : Option Addr} {m c : Nat} {xs : List Value} (o : w.ownsRow B e size (.slice p m c) n xs) (hn : 0 < n) : ∃ g, p = some ⟨g, 0, none⟩ ∧ m = n ∧ g < w.heap.size := by
  have o' := o
  obtain ⟨_, ⟨k1, k2⟩ | ⟨g2, c2, cur2, k1, _, k2, k3, k4, _⟩⟩ := o'
  · omega
  · simp only [Value.slice.injEq] at k1
    obtain ⟨rfl, rfl, rfl⟩ := k1
    exact ⟨g2, rfl, rfl, own_lt o rfl⟩
theorem GAt.putE {w : World} {b : Nat} {s : GV} {G : Gr} {g c : Nat} (h : GAt w b s G) (hv : s.ve = .slice (some ⟨g, 0, none⟩) G.es.length c) (p e : Nat) (v : Int) (hp : p < G.es.length) (he : e < 2) : GAt (w.setCell ⟨g, p * 3 + 1 + e, none⟩ (.int .i64 v)) b s { G with es := G.es.set p ((eat G.es p).put e v) } ∧ GFr w (w.setCell ⟨g, p * 3 + 1 + e, none⟩ (.int .i64 v)) b s s := by
  obtain ⟨fs, od, k, tb⟩ := h.don
  have hg : s.ve.ownBlock = some g := by rw [hv]; rfl
  have hf : Frame w (w.setCell ⟨g, p * 3 + 1 + e, none⟩ (.int .i64 v)) (fun k => s.ve.ownBlock = some k) := Frame.set _ _ _ hg
  have oe := h.edg
  rw [hv] at oe
  have oe2 := (World.ownsRow.stored oe (p * 3 + 1 + e) (.int .i64 v)).1
  rw [ecells_set _ _ _ _ he hp] at oe2
  refine ⟨⟨hf.row h.box (fun i e => apart h.box h.edg (by decide) e), hf.row h.nod (fun i e => apart h.nod h.edg (by decide) e), ?_, hf.row h.mks (fun i e => apart h.mks h.edg (by decide) e), fs, hf.row od (fun i e => apart od h.edg (by decide) e), k.keep hf (fun k _ e => Or.inl (Or.inr (Or.inr (Or.inl e)))) (fun _ h => Or.inl h), fun i hi => Nat.lt_of_lt_of_le (tb i hi) hf.size⟩, hf.mono (fun k _ e => Or.inr (Or.inr (Or.inl e))), fun _ h => Or.inl h, rfl⟩
  rw [hv]
  show World.ownsRow _ 0 76 3 _ (G.es.set p _).length _
  rw [List.length_set]
  exact oe2
set_option maxRecDepth 100000 in
set_option maxHeartbeats 8000000 in
theorem setEnd54 (b : Nat) (s : GV) (G : Gr) (p e : Nat) (v : Int) (w : World) (h : GAt w b s G) (hl : G.dn.length ≤ 5000000) (hm : G.ms.length ≤ 64) (hn : G.es.length ≤ 5000) (hp : p < G.es.length) (he : e < 2) : Calls Try.prog 54 #[ptr b, .int .i64 p, .int .i64 e, .int .i64 v] w (Turns w b s (.tuple #[]) (G.setE p e v)) := by
  obtain ⟨pn, cn, pe, ce, pm, cm, pd, cd, _, hs, _⟩ := h.form
  have hb := h.lt
  have oe := h.edg
  rw [hs] at oe
  obtain ⟨g, rfl, _, hg⟩ := own_some oe (by omega)
  obtain ⟨was, hwas⟩ : ∃ x, (eat G.es p).get e = x := ⟨_, rfl⟩
  have cw : w.cell? ⟨g, p * 3 + 1 + e, none⟩ = some (.int .i64 was) := by
    rcases own_ehas oe with h | ⟨g', h1, h2⟩
    · rw [h] at hp; simp at hp
    · cases h1
      obtain ⟨k0, k1, k2⟩ := h2 p hp
      rw [← hwas]
      unfold Ed.get
      by_cases he0 : e = 0
      · subst he0; exact k1
      · have : e = 1 := by omega
        subst this; exact k2
  have hgb : g ≠ b := fun e => h.ne.2.1 (by rw [hs, e]; rfl)
  have q2 : w.cell? ⟨b, 2, none⟩ = some (.slice (some ⟨g, 0, none⟩) G.es.length ce) := by have := h.cells.2.2.1; rw [hs] at this; exact this
  obtain ⟨W, hW⟩ : ∃ W, W = (w.alloc (.cells #[.int .i64 p] 3)).alloc (.cells #[.int .i64 e] 3) := ⟨_, rfl⟩
  have hbW : Below w.heap.size w W := by rw [hW]; go_grown
  have hsz : W.heap.size = w.heap.size + 2 := by rw [hW]; simp
  have HGW := hide (h.later hbW)
  have HBW := hide hbW
  have HGW0 := hide h
  have a1 : W.cell? ⟨w.heap.size, 0, none⟩ = some (.int .i64 p) := by rw [hW]; go_cell
  have a2 : W.cell? ⟨w.heap.size + 1, 0, none⟩ = some (.int .i64 e) := by rw [hW]; go_cell
  have a3 := later hbW q2
  have a4 := later hbW cw
  have i0 : (0 : Int) ≤ p := by omega
  have i1 : (p : Int) < G.es.length := by omega
  have i2 : (0 : Int) ≤ e := by omega
  have i3 : (e : Int) < 2 := by omega
  have HLT := hide (show b < w.heap.size ∧ g < w.heap.size from ⟨hb, hg⟩)
  have HWAS := hide hwas
  have HSZ := hide hsz
  clear h hbW oe cw q2 hwas
  go_enter Try.func54, Try.ntmps54
  go_upto_region 1 with fail
  rw [← hW]
  clear hW
  have n1 := World.new_ne W _ a1
  have n2 := World.new_ne W _ a2
  have n3 := World.new_ne W _ a3
  have n4 := World.new_ne W _ a4
  go_region_held3 (fun V => V.cell? ⟨w.heap.size, 0, none⟩ = some (.int .i64 p) ∧ V.cell? ⟨w.heap.size + 1, 0, none⟩ = some (.int .i64 e) ∧ V.cell? ⟨b, 2, none⟩ = some (.slice (some ⟨g, 0, none⟩) G.es.length ce) ∧ V.cell? ⟨g, p * 3 + 1 + e, none⟩ = some (.int .i64 was)) (go_keep) (fail)
  rename_i hHeld
  clear hHeld
  obtain ⟨X, hX⟩ : ∃ X, X = (W.alloc (.cells #[.int .i64 was] 3)).drew := ⟨_, rfl⟩
  have hbX : Below W.heap.size W X := by rw [hX]; go_grown
  have HK1 : Hid (X.cell? ⟨w.heap.size + 2, 0, none⟩ = some (.int .i64 was)) := by
    show _ = _
    rw [hX, ← HSZ.out]
    go_cell
  rw [← hX]
  clear hX n1 n2 n3 n4
  have HGX := hide (HGW.out.later hbX)
  have HBX := hide (below_step HBW.out hbX)
  have b1 := later hbX a1
  have b2 := later hbX a2
  have b3 := later hbX a3
  have b4 := later hbX a4
  have f4 : X.frozen? ⟨g, p * 3 + 1 + e, none⟩ = false := by
    have := HGX.out.edg
    rw [hs] at this
    exact World.ownsRow.frozenAt this _
  have HS := hide (show X.cell? ⟨w.heap.size, 0, none⟩ = some (.int .i64 p) ∧ X.cell? ⟨w.heap.size + 1, 0, none⟩ = some (.int .i64 e) ∧ X.cell? ⟨b, 2, none⟩ = some (.slice (some ⟨g, 0, none⟩) G.es.length ce) from ⟨b1, b2, b3⟩)
  have m1 : w.heap.size ≠ g := by have := HLT.out; omega
  have m2 : w.heap.size + 1 ≠ g := by have := HLT.out; omega
  have m3 : b ≠ g := fun e => hgb e.symm
  clear hbX a1 a2 a3 a4 hsz hgb
  go_wp2_with fail
  go_region_held3 (fun V => V.cell? ⟨w.heap.size, 0, none⟩ = some (.int .i64 p) ∧ V.cell? ⟨w.heap.size + 1, 0, none⟩ = some (.int .i64 e) ∧ V.cell? ⟨b, 2, none⟩ = some (.slice (some ⟨g, 0, none⟩) G.es.length ce)) (first | exact HS.out | exact ⟨cell_other HS.out.1 m1, cell_other HS.out.2.1 m2, cell_other HS.out.2.2 m3⟩) (fail)
  rename_i hHeld
  clear hHeld
  obtain ⟨Y, hY⟩ : ∃ Y, Y = (X.setCell ⟨g, p * 3 + 1 + e, none⟩ (.int .i64 v)).drew := ⟨_, rfl⟩
  obtain ⟨g1, r1⟩ := HGX.out.putE (g := g) (c := ce) (by rw [hs]) p e v hp he
  have hbY : Below (X.setCell ⟨g, p * 3 + 1 + e, none⟩ (.int .i64 v)).heap.size (X.setCell ⟨g, p * 3 + 1 + e, none⟩ (.int .i64 v)) Y := by rw [hY]; exact below_drew _
  have HG1 := hide (g1.later hbY)
  have HR1 := hide (((GFr.of_below HBX.out).trans r1).trans (GFr.of_below hbY))
  have HU : Hid (UnAt Y (GN b s) (.func (.func 84) #[] #[ptr (w.heap.size + 2), ptr w.heap.size, ptr (w.heap.size + 1)]) (.se p e ((eat G.es p).get e))) := by
    have hGB : ∀ k, w.heap.size ≤ k → ¬ GN b s k := fun k hk hgn => by
      obtain ⟨fs, od, _, tb⟩ := HGW0.out.don
      refine hgn.elim (fun hgb => ?_) (fun ht => by have := tb k ht; omega)
      rcases hgb with e | e | e | e | e
      · have := HLT.out; omega
      · have := own_lt HGW0.out.nod e; omega
      · have := own_lt HGW0.out.edg e; omega
      · have := own_lt HGW0.out.mks e; omega
      · have := own_lt od e; omega
    have m4 : w.heap.size + 2 ≠ g := by have := HLT.out; omega
    refine ⟨_, _, _, rfl, hGB _ (by omega), hGB _ (by omega), hGB _ (by omega), ?_, ?_, ?_⟩
    · rw [HWAS.out]; exact later hbY (cell_other HK1.out m4)
    · exact later hbY (cell_other HS.out.1 m1)
    · exact later hbY (cell_other HS.out.2.1 m2)
  rw [← hY]
  have RM := hide (remember73 b _ _ _ _ Y HG1.out HU.out hl hm)
  clear hY hbY g1 r1 b1 b2 b3 b4 f4
  go_wp2_with (go_at_call 73; refine RM.out.mono ?_; rintro e w' ⟨rfl, s', g', r'⟩; have H1 := hide g'; have H2 := hide (HR1.out.trans r'); clear g' r')
  go_end0
  exact ⟨rfl, _, H1.out, H2.out⟩
end Go.Proofs.Ytgfiofogcnnkhaa
