/- The law's own loop over Edges, gone over, left early and gone over again. -/
import Derived.Test.YtgfiofogcnnkhaaHE
import Derived.Test.YtgfiofogcnnkhaaR5
import Derived.Deep.LoopGhost
namespace Go.Proofs.Ytgfiofogcnnkhaa
open Go.RowKit Go.Sort Go.Shelf
open Go

attribute [local go_sem] Oper.semAt_some
/-- The law of a range over a function, where the assignment puts a value into a slot. -/
theorem range_one {F : Fence} {n : Nat} {P : Program} {α : Type} {g : Operand} {ps : Array Tmp} {assign body : Code} {Q : Exit → Act → World → Prop} {a : Act} {w : World}
    (hro : F.round = none) (h1 : 1 ≤ n) {gf : Nat} {lb : Array Value} (hg : a.eval g = .func (.func gf) #[] lb) (hFg : F.fn gf) (eg : ∀ args w, (callFunc gf args).run P w = .ok (.enter gf args) w)
    {encs : α → Array Value} {Kp : World → World → Prop} {S Sp : List α → Prop} {N : Nat} {w0 : World} (hseq : SeqStopsK F (n - 1) P gf lb encs Kp S Sp N w0)
    (hKt : ∀ {A B C : World}, Kp A B → Kp B C → Kp A C) (hKb : ∀ (W : World) (l : Nat) (o o' : Obj), w.heap.size ≤ l → W.heap[l]? = some o → o.isCells = false → o.isWalk = false → Kp W (W.putObj l o')) (hb0 : Below w0.heap.size w0 w) (hps : ∀ x, (encs x).size = ps.size)
    (I : List α → World → Prop) (Ix : Code → List α → World → Prop) (hI : OwnFrom w.heap.size I) (hIx : ∀ c, OwnFrom w.heap.size (Ix c)) (h0 : I [] w) (d : Tmp) (f : α → Value)
    (hassign : ∀ (l : Nat) (x : α) (W : World) (K : Act → World → Prop), K { tmps := ((ps.zip (encs x)).foldl (fun t (p, v) => t.setIfInBounds p v) a.tmps).setIfInBounds d (f x), defers := [] } W →
      assign.wpIn (F.inRound l) (n - 1 - 1) P (Exit.then K (fun _ _ _ => False)) { tmps := (ps.zip (encs x)).foldl (fun t (p, v) => t.setIfInBounds p v) a.tmps, defers := [] } W)
    (hbody : ∀ (l : Nat) (pre : List α) (x : α) (W : World), I pre W → pre.length < N → body.wpIn (F.inRound l) (n - 1 - 1) P (ownPostG w.heap.size Kp I Ix (pre ++ [x]) W) { tmps := ((ps.zip (encs x)).foldl (fun t (p, v) => t.setIfInBounds p v) a.tmps).setIfInBounds d (f x), defers := [] } W)
    (hdone : ∀ (D : Nat) (xs : List α) (W : World), w.heap.size ≤ D → S xs → I xs W → W.heap[D]? = some (.deferred (some [])) → Q .normal { a with defers := { target := .collected D, args := #[] } :: a.defers } W)
    (hstop : ∀ (D : Nat) (c : Code) (pre : List α) (W : World), w.heap.size ≤ D → Sp pre → Ix c pre W → W.heap[D]? = some (.deferred (some [])) → c.wpIn F n P Q { a with defers := { target := .collected D, args := #[] } :: a.defers } W) :
    (Code.rangeFunc g ps assign body).wpIn F n P Q a w :=
  wpIn_rangeFunc_ownG hro h1 hg hFg eg hseq hKt hKb hb0 hps I Ix hI hIx h0 _ hassign hbody hdone hstop
theorem owns_at {w : World} {B : Nat} {p : Option Addr} {c : Nat} {l : List Int} (o : IOwns w B (.slice p l.length c) l) : ∃ g, (0 < l.length → p = some ⟨g, 0, none⟩) ∧ ∀ j, j < l.length → w.cell? ⟨g, j, none⟩ = some (.int .i64 (iat l j)) := by
  by_cases h0 : 0 < l.length
  · obtain ⟨g, hg, _, _⟩ := own_some o (by omega)
    refine ⟨g, fun _ => hg, ?_⟩
    rcases own_ihas o with h1 | ⟨g', o', h1, h2⟩
    · rw [h1] at h0; simp at h0
    · rw [hg] at h1
      cases h1
      intro j hj
      have := h2 j hj
      rw [Nat.zero_add] at this
      exact this
  · exact ⟨0, fun h => absurd h h0, fun j hj => by omega⟩
/-- What the loop answers: true where both lists are alike. -/
def EdPost (O Wn : List Int) (w : World) (e : Ending) (w' : World) : Prop := ∃ r, e = .returned (.bool r) ∧ (O = Wn → r = true) ∧ Below w.heap.size w w'
set_option maxRecDepth 100000 in
set_option maxHeartbeats 16000000 in
theorem edges44 (kr b br : Nat) (s : GV) (V : RV) (G R : Gr) (M : List (Int × Gr)) (L v : Int) (w : World) (h : GAt w b s G) (hr : RAt w br V R M L) (c0 : w.cell? ⟨kr, 0, none⟩ = some (ptr b)) (c1 : w.cell? ⟨kr, 1, none⟩ = some (ptr br)) (hl : G.es.length ≤ 5000) (hl2 : R.es.length ≤ 5000) : Calls Try.prog 44 #[ptr kr, .int .i64 v] w (EdPost (idAt G v) (rE R.es v R.es.length) w) := by
  obtain ⟨W0, hW0⟩ : ∃ W, W = w.alloc (.cells #[.bool false] 4) := ⟨_, rfl⟩
  have hb0 : Below w.heap.size w W0 := by rw [hW0]; go_grown
  have hs0 : W0.heap.size = w.heap.size + 1 := by rw [hW0]; simp
  have r0 : W0.cell? ⟨w.heap.size, 0, none⟩ = some (.bool false) := by rw [hW0]; go_cell
  have r1 : W0.frozen? ⟨w.heap.size, 0, none⟩ = false := by rw [hW0]; go_cell
  have E26 := hide (edges26 b s G v W0 (h.later hb0) hl)
  have E79 : Hid (∀ U, Below w.heap.size w U → _) := fun U hU => rEdges79 br V R M L v U (hr.later hU) hl2
  obtain ⟨O, hO⟩ : ∃ O, idAt G v = O := ⟨_, rfl⟩
  obtain ⟨Wn, hWn⟩ : ∃ O, rE R.es v R.es.length = O := ⟨_, rfl⟩
  have hOl : O.length ≤ 5000 := by rw [← hO]; unfold idAt; rw [idN_length]; exact Nat.le_trans (atN_length _ _ _) hl
  have hWl : Wn.length ≤ 5000 := by rw [← hWn]; exact Nat.le_trans (rE_length _ _ _) hl2
  rw [hO] at E26 ⊢
  rw [hWn] at E79 ⊢
  have q0 := later hb0 c0
  have HC1 : Hid (∀ U, Below w.heap.size w U → U.cell? ⟨kr, 1, none⟩ = some (ptr br)) := fun U hU => later hU c1
  have HB0 := hide hb0
  have HS0 := hide hs0
  have HR0 := hide (And.intro r0 r1)
  have EF := eqlF
  clear h hr c0 c1 hO hWn hb0 hs0 r0 r1
  obtain ⟨k4, hk4⟩ : ∃ k, w.heap.size = k := ⟨_, rfl⟩
  refine (callsIn_wide (n := 9)).1 ?_
  refine callsIn_of_wp_marks Try.func44 rfl trivial ?_ rfl
  simp only [Try.ntmps44, List.size_toArray, List.length_cons, List.length_nil, Nat.reduceAdd, Nat.reduceSub, Array.replicate_succ, Array.replicate_zero, List.push_toArray, List.append_toArray, List.nil_append, List.cons_append]
  refine wpIn_wide.2 ?_
  go_upto_region 1 with fail
  rw [← hW0]
  clear hW0
  go_upto_region 4 with (go_at_call 26; refine E26.out.mono ?_; rintro e w1 ⟨kx, po, co, rfl, e1, o1, _, hb1⟩; have HE1 := hide e1; have HO1 := hide o1; have HB1 := hide (below_step HB0.out hb1); have HB01 := hide hb1; clear e1 o1 hb1)
  have q1 := HC1.out _ HB1.out
  clear q0
  go_wp2_with (go_at_call 79; refine (E79.out _ HB1.out).mono ?_; rintro e w2 ⟨p2, c2, rfl, o2, hb2⟩; have HO2 := hide o2; have HB2 := hide (below_step HB1.out hb2); have HB12 := hide hb2; clear o2 hb2)
  obtain ⟨w3, hw3⟩ : ∃ W, W = w2.alloc (.cells #[.slice p2 Wn.length c2] 38) := ⟨_, rfl⟩
  have hb3 : Below w2.heap.size w2 w3 := by rw [hw3]; go_grown
  have hs3 : w3.heap.size = w2.heap.size + 1 := by rw [hw3]; simp
  have HK6 : Hid (w3.cell? ⟨w2.heap.size, 0, none⟩ = some (.slice p2 Wn.length c2)) := by show _ = _; rw [hw3]; go_cell
  rw [← hw3, ← hs3]
  obtain ⟨k6, hk6⟩ : ∃ k, w2.heap.size = k := ⟨_, rfl⟩
  rw [hk6] at HK6 ⊢
  have hk6l : k6 < w3.heap.size := by omega
  have HB3 := hide (below_step HB2.out hb3)
  obtain ⟨go, hpo, hgo⟩ := owns_at HO1.out
  obtain ⟨gw, hpw, hgw⟩ := owns_at HO2.out
  have HPO := hide hpo
  have HPW := hide hpw
  have hb13 : Below w1.heap.size w1 w3 := below_step HB12.out hb3
  have HGO : Hid (∀ j, j < O.length → w3.cell? ⟨go, j, none⟩ = some (.int .i64 (iat O j))) := fun j hj => later hb13 (hgo j hj)
  have HGW : Hid (∀ j, j < Wn.length → w3.cell? ⟨gw, j, none⟩ = some (.int .i64 (iat Wn j))) := fun j hj => later hb3 (hgw j hj)
  have HKX : Hid (w3.cell? ⟨kx, 0, none⟩ = some (.slice po O.length co)) := later hb13 HE1.out
  have hb03 : Below W0.heap.size W0 w3 := below_step HB01.out hb13
  have C0 : Hid (w3.cell? ⟨k4, 0, none⟩ = some (.bool false)) := by show _ = _; rw [← hk4]; exact later hb03 HR0.out.1
  have hk4l : k4 < w3.heap.size := by have := hb03.size; have := HS0.out; omega
  have C1 : Hid (w3.frozen? ⟨k4, 0, none⟩ = false) := by
    show _ = _
    rw [← hk4]
    exact (hb03.frozen (p := ⟨w.heap.size, 0, none⟩) (by show w.heap.size < W0.heap.size; have := HS0.out; omega)).trans HR0.out.2
  have HLT : Hid (∀ i, (i = kx ∨ 0 < O.length ∧ i = go) → i < w3.heap.size) := by
    rintro i (rfl | ⟨h0, rfl⟩)
    · exact block_lt_of_cell HKX.out
    · exact block_lt_of_cell (HGO.out 0 h0)
  clear hw3 hb3 hs3 hk6 hpo hpw hgo hgw hb13 hb03 HE1 HO1 HO2 HB0 HS0 HR0 HB1 HB01 HB2 HB12 E26 E79 HC1 q1 EF
  refine wp_loop_ghost_k (fun gk a' w' => ∃ (turn k7 : Nat) (Ds : List Nat) (u2 u3 u8 u9 u10 u11 u12 u13 u14 u15 u16 u17 u18 u19 u20 u21 u22 u23 u24 u25 u26 u27 u28 u29 u30 u31 u32 u33 u34 u35 u36 u37 u38 u39 u40 u41 u42 u43 u44 u45 u46 u47 u48 u49 u50 u51 u52 u53 u54 u55 u56 u57 u58 u59 u60 u61 u62 : Value), turn + gk = 2 ∧ Hid (Below w3.heap.size w3 w') ∧ Hid (Marks w3.heap.size w' Ds) ∧ w'.cell? ⟨k7, 0, none⟩ = some (.int .i64 turn) ∧ w'.frozen? ⟨k7, 0, none⟩ = false ∧ Hid (w3.heap.size ≤ k7) ∧ a' = { tmps := #[ptr kr, .int .i64 v, u2, u3, ptr k4, .func (.func 94) #[] #[ptr kx], ptr k6, ptr k7, u8, u9, u10, u11, u12, u13, u14, u15, u16, u17, u18, u19, u20, u21, u22, u23, u24, u25, u26, u27, u28, u29, u30, u31, u32, u33, u34, u35, u36, u37, u38, u39, u40, u41, u42, u43, u44, u45, u46, u47, u48, u49, u50, u51, u52, u53, u54, u55, u56, u57, u58, u59, u60, u61, u62], defers := Ds.map mkD }) 2 ?start ?round
  case start =>
    exact ⟨0, _, [], _, _, _, _, _, _, _, _, _, _, _, _, _, _, _, _, _, _, _, _, _, _, _, _, _, _, _, _, _, _, _, _, _, _, _, _, _, _, _, _, _, _, _, _, _, _, _, _, _, _, _, _, _, _, _, _, _, rfl, by show Below _ _ _; go_grown, ⟨List.nodup_nil, fun D hD => by simp at hD⟩, by go_cell, by go_cell, Nat.le_refl _, rfl⟩
  case round =>
    rintro gk a' wr ⟨turn, k7, Ds, u2, u3, u8, u9, u10, u11, u12, u13, u14, u15, u16, u17, u18, u19, u20, u21, u22, u23, u24, u25, u26, u27, u28, u29, u30, u31, u32, u33, u34, u35, u36, u37, u38, u39, u40, u41, u42, u43, u44, u45, u46, u47, u48, u49, u50, u51, u52, u53, u54, u55, u56, u57, u58, u59, u60, u61, u62, htk, HBr, HM, h7, f7, HK7, rfl⟩ J K hJ hK
    have HHJ := hide hJ
    have HHK := hide hK
    have hsr := HBr.out.size
    have HC0 : Hid (wr.cell? ⟨k4, 0, none⟩ = some (.bool false) ∧ wr.frozen? ⟨k4, 0, none⟩ = false) := ⟨later HBr.out C0.out, (HBr.out.frozen (p := ⟨k4, 0, none⟩) hk4l).trans C1.out⟩
    by_cases hlt : turn < 2
    · have i1 : (turn : Int) < 2 := by omega
      have hkr : k7 < wr.heap.size := block_lt_of_cell h7
      go_wp2_with fail
      refine (wpIn_wide (n := 9)).1 ?_
      obtain ⟨X, hX⟩ : ∃ X, X = wr.alloc (.cells #[.int .i64 0] 3) := ⟨_, rfl⟩
      have hbX : Below wr.heap.size wr X := by rw [hX]; go_grown
      have x8 : X.cell? ⟨wr.heap.size, 0, none⟩ = some (.int .i64 0) := by rw [hX]; go_cell
      have y8 : X.frozen? ⟨wr.heap.size, 0, none⟩ = false := by rw [hX]; go_cell
      have hsX : X.heap.size = wr.heap.size + 1 := by rw [hX]; simp
      have HBX := hide (below_step HBr.out hbX)
      have HQ : Hid (∀ i, i < w3.heap.size → ¬ (i = wr.heap.size ∨ X.heap.size ≤ i)) := fun i hi => by omega
      have X7 : Hid (X.cell? ⟨k7, 0, none⟩ = some (.int .i64 turn)) := later hbX h7
      have MX := hide (HM.out.later hbX)
      have hq7 : ¬ (k7 = wr.heap.size ∨ X.heap.size ≤ k7) := by omega
      have C0X : Hid (X.cell? ⟨k4, 0, none⟩ = some (.bool false) ∧ X.frozen? ⟨k4, 0, none⟩ = false) := ⟨later hbX HC0.out.1, (hbX.frozen (p := ⟨k4, 0, none⟩) (by show k4 < wr.heap.size; omega)).trans HC0.out.2⟩
      rw [← hX]
      have HSX := hide hsX
      clear hX hsX
      refine range_one rfl (by omega) (gf := 94) (lb := #[ptr kx]) rfl trivial (enters_of Try.func94 (by kernel_rfl) rfl)
        (values94_stops Fence.wide (9 - 1) trivial rfl (by omega) kx go co po O (by omega) HPO.out (fun A B => Frame A B (fun i => i = wr.heap.size ∨ X.heap.size ≤ i)) (fun A B h i j v hi hc => h.cell hc (HQ.out i (HLT.out i hi))) X (later HBX.out HKX.out) (fun j hj => later HBX.out (HGO.out j hj)))
        (fun h k => Frame.trans h k) (fun W l o o' hl h _ _ => frame_put h (Or.inr hl)) (Below.refl _ _) (fun _ => rfl)
        (fun pre W => Frame X W (fun i => i = wr.heap.size ∨ X.heap.size ≤ i) ∧ W.cell? ⟨wr.heap.size, 0, none⟩ = some (.int .i64 pre.length) ∧ W.frozen? ⟨wr.heap.size, 0, none⟩ = false)
        (fun c pre W => (c = .ret ∧ (∀ k, k ≤ Wn.length → ¬ pre = Wn.take k) ∧ Frame X W (fun i => i = k4 ∨ i = wr.heap.size ∨ X.heap.size ≤ i) ∧ W.cell? ⟨k4, 0, none⟩ = some (.bool false)) ∨ (c = .exit 2 ∧ turn = 0 ∧ pre.length = 2 ∧ Frame X W (fun i => i = wr.heap.size ∨ X.heap.size ≤ i) ∧ W.cell? ⟨wr.heap.size, 0, none⟩ = some (.int .i64 pre.length) ∧ W.frozen? ⟨wr.heap.size, 0, none⟩ = false))
        ?own ?ownx ⟨Frame.of_below (Below.refl _ _) _, x8, y8⟩ 9 (fun x => .int .i64 x) ?assign ?body ?done ?stop
      case own =>
        intro pre A B row ⟨h1, h2, h3⟩ hg hr
        exact ⟨h1.trans (Frame.grown hg (fun i e => Or.inr (hr i e).1)), cell_kept h2 hg (fun r e => (hr r e).2), (frozen_kept h2 hg (fun r e => (hr r e).2)).trans h3⟩
      case ownx =>
        rintro c pre A B row (⟨h1, h2, h3, h4⟩ | ⟨h0, ht, hp, h1, h2, h3⟩) hg hr
        · exact Or.inl ⟨h1, h2, h3.trans (Frame.grown hg (fun i e => Or.inr (Or.inr (hr i e).1))), cell_kept h4 hg (fun r e => (hr r e).2)⟩
        · exact Or.inr ⟨h0, ht, hp, h1.trans (Frame.grown hg (fun i e => Or.inr (hr i e).1)), cell_kept h2 hg (fun r e => (hr r e).2), (frozen_kept h2 hg (fun r e => (hr r e).2)).trans h3⟩
      case assign =>
        intro l x W K hK
        simp only [vEnc, List.zip_toArray, List.zip_cons_cons, List.zip_nil_right, List.foldl_toArray, List.foldl_cons, List.foldl_nil, List.setIfInBounds_toArray, List.set_cons_zero, List.set_cons_succ] at hK ⊢
        gi_wp2
        exact hK
      case done =>
        rintro D ys W hD hys ⟨h1, h2, h3⟩ hKD
        rw [hys] at h2
        have b6 := h1.cell (later HBX.out HK6.out) (HQ.out _ hk6l)
        have c7 := h1.cell X7.out hq7
        have c4 := h1.cell C0X.out.1 (HQ.out _ hk4l)
        have g4 : W.frozen? ⟨k4, 0, none⟩ = false := by rw [World.frozen?_of_block (h1.block k4 (by have := HSX.out; omega) (HQ.out _ hk4l))]; exact C0X.out.2
        have HN : Hid (Marks w3.heap.size W (D :: Ds)) := by
          refine ⟨List.nodup_cons.2 ⟨fun hm => ?_, MX.out.1⟩, fun E hE => ?_⟩
          · have := (Array.getElem?_eq_some_iff.1 (MX.out.2 D hm).2).1
            exact absurd this (by omega)
          · rcases List.mem_cons.1 hE with rfl | hE
            · exact ⟨by have := HSX.out; omega, hKD⟩
            · have h5 := (Array.getElem?_eq_some_iff.1 (HM.out.2 E hE).2).1
              have h6 := (MX.out.2 E hE).1
              exact ⟨h6, (h1.block E (by have := HSX.out; omega) (by have := HSX.out; omega)).trans (MX.out.2 E hE).2⟩
        have HBW : Hid (Below w3.heap.size w3 W) := HBX.out.trans (h1.below (by have := HSX.out; omega) (fun i hi => by have := HSX.out; omega))
        have hsW := h1.size
        clear h1 h3
        by_cases hln : O.length = Wn.length
        · have t1 : ((O.length : Int) != Wn.length) = false := by simp [hln]
          go_wp2_with fail
          refine Handed.intro (gk - 1) (by omega) (HHJ.out _ _ _ ⟨turn + 1, _, D :: Ds, _, _, _, _, _, _, _, _, _, _, _, _, _, _, _, _, _, _, _, _, _, _, _, _, _, _, _, _, _, _, _, _, _, _, _, _, _, _, _, _, _, _, _, _, _, _, _, _, _, _, _, _, _, _, _, _, _, by omega, ?_, ?_, ?_, ?_, ?_, rfl⟩)
          · exact below_step HBW.out (by go_grown)
          · exact HN.out.later (by go_grown)
          · try rw [show ((turn + 1 : Nat) : Int) = (turn : Int) + 1 from by omega]
            go_cell
          · go_cell
          · show w3.heap.size ≤ W.heap.size
            have := HBW.out.size
            omega
        · have t1 : ((O.length : Int) != Wn.length) = true := by simp; omega
          by_cases ht : turn = 0
          · subst ht
            by_cases h2' : O.length = 2
            · have t2 : ((O.length : Int) != 2) = false := by simp [h2']
              clear h2'
              go_wp2_with fail
              refine Handed.intro (gk - 1) (by omega) (HHJ.out _ _ _ ⟨0 + 1, _, D :: Ds, _, _, _, _, _, _, _, _, _, _, _, _, _, _, _, _, _, _, _, _, _, _, _, _, _, _, _, _, _, _, _, _, _, _, _, _, _, _, _, _, _, _, _, _, _, _, _, _, _, _, _, _, _, _, _, _, _, by omega, ?_, ?_, ?_, ?_, ?_, rfl⟩)
              · exact below_step HBW.out (by go_grown)
              · exact HN.out.later (by go_grown)
              · try rw [show ((turn + 1 : Nat) : Int) = (turn : Int) + 1 from by omega]
                go_cell
              · go_cell
              · show w3.heap.size ≤ W.heap.size
                have := HBW.out.size
                omega
            · have t2 : ((O.length : Int) != 2) = true := by simp; omega
              go_wp2_with fail
              refine leave_marks (B := w3.heap.size) (D :: Ds) _ ?_ ?_
              · refine ⟨HN.out.1, fun E hE => ⟨(HN.out.2 E hE).1, ?_⟩⟩
                exact (Below.heap_setCell _ _ _ E (by have := (HN.out.2 E hE).1; show E ≠ k4; omega)).trans (HN.out.2 E hE).2
              · intro W' hb hc
                have c9 := hc ⟨k4, 0, none⟩ (.bool false) (World.cell?_setCell_same' _ _ _ (by rw [c4]; rfl))
                refine ⟨.bool false, ?_, false, rfl, fun e => absurd (congrArg List.length e) hln, ?_⟩
                · simp [results, Try.f44, go_sem, c9]
                · exact ((below_step HB3.out HBW.out).setCell (p := ⟨k4, 0, none⟩) (by show w.heap.size ≤ k4; omega) _).trans (hb.mono (by have := HB3.out.size; omega))
          · have t2 : (0 : Int) < turn := by omega
            go_wp2_with fail
            refine leave_marks (B := w3.heap.size) (D :: Ds) _ ?_ ?_
            · refine ⟨HN.out.1, fun E hE => ⟨(HN.out.2 E hE).1, ?_⟩⟩
              exact (Below.heap_setCell _ _ _ E (by have := (HN.out.2 E hE).1; show E ≠ k4; omega)).trans (HN.out.2 E hE).2
            · intro W' hb hc
              have c9 := hc ⟨k4, 0, none⟩ (.bool false) (World.cell?_setCell_same' _ _ _ (by rw [c4]; rfl))
              refine ⟨.bool false, ?_, false, rfl, fun e => absurd (congrArg List.length e) hln, ?_⟩
              · simp [results, Try.f44, go_sem, c9]
              · exact ((below_step HB3.out HBW.out).setCell (p := ⟨k4, 0, none⟩) (by show w.heap.size ≤ k4; omega) _).trans (hb.mono (by have := HB3.out.size; omega))
      case stop =>
        rintro D c pre W hD ⟨k, hk, hpe⟩ (⟨rfl, hbad, h1, h4⟩ | ⟨rfl, ht0, hp2, h1, h2, h3⟩) hKD
        · have HBW : Hid (Below w.heap.size w W) := (below_step HB3.out HBX.out).trans (h1.below (by have := HB3.out.size; have := HBX.out.size; omega) (fun i hi => by have := HSX.out; have := HB3.out.size; omega))
          have HN : Hid (Marks w3.heap.size W (D :: Ds)) := by
            refine ⟨List.nodup_cons.2 ⟨fun hm => ?_, MX.out.1⟩, fun E hE => ?_⟩
            · have := (Array.getElem?_eq_some_iff.1 (MX.out.2 D hm).2).1
              exact absurd this (by omega)
            · rcases List.mem_cons.1 hE with rfl | hE
              · exact ⟨by have := HSX.out; omega, hKD⟩
              · have h5 := (Array.getElem?_eq_some_iff.1 (HM.out.2 E hE).2).1
                have h6 := (MX.out.2 E hE).1
                exact ⟨h6, (h1.block E (by have := HSX.out; omega) (by have := HSX.out; omega)).trans (MX.out.2 E hE).2⟩
          have HH4 := hide h4
          have HBD : Hid (O = Wn → False) := fun e => hbad k (by rw [← e]; exact hk) (by rw [← e]; exact hpe)
          clear h1 hbad hpe h4
          refine wpIn_wide.2 ?_
          go_wp2_with fail
          refine leave_marks (B := w3.heap.size) (D :: Ds) _ HN.out ?_
          intro W' hb hc
          have c9 := hc ⟨k4, 0, none⟩ (.bool false) HH4.out
          refine ⟨.bool false, ?_, false, rfl, fun e => (HBD.out e).elim, ?_⟩
          · simp [results, Try.f44, go_sem, c9]
          · exact HBW.out.trans (hb.mono (by have := HB3.out.size; omega))
        · rw [hp2] at h2
          refine wpIn_wide.2 ?_
          have b6 := h1.cell (later HBX.out HK6.out) (HQ.out _ hk6l)
          have c7 := h1.cell X7.out hq7
          have HN : Hid (Marks w3.heap.size W (D :: Ds)) := by
            refine ⟨List.nodup_cons.2 ⟨fun hm => ?_, MX.out.1⟩, fun E hE => ?_⟩
            · have := (Array.getElem?_eq_some_iff.1 (MX.out.2 D hm).2).1
              exact absurd this (by omega)
            · rcases List.mem_cons.1 hE with rfl | hE
              · exact ⟨by have := HSX.out; omega, hKD⟩
              · have h5 := (Array.getElem?_eq_some_iff.1 (HM.out.2 E hE).2).1
                have h6 := (MX.out.2 E hE).1
                exact ⟨h6, (h1.block E (by have := HSX.out; omega) (by have := HSX.out; omega)).trans (MX.out.2 E hE).2⟩
          have HBW : Hid (Below w3.heap.size w3 W) := HBX.out.trans (h1.below (by have := HSX.out; omega) (fun i hi => by have := HSX.out; omega))
          have hsW := h1.size
          clear h1 h3 hp2 hpe
          subst ht0
          by_cases hln : Wn.length = 2
          · have t1 : ((2 : Int) != Wn.length) = false := by simp [hln]
            clear hln
            go_wp2_with fail
            refine Handed.intro (gk - 1) (by omega) (HHJ.out _ _ _ ⟨0 + 1, _, D :: Ds, _, _, _, _, _, _, _, _, _, _, _, _, _, _, _, _, _, _, _, _, _, _, _, _, _, _, _, _, _, _, _, _, _, _, _, _, _, _, _, _, _, _, _, _, _, _, _, _, _, _, _, _, _, _, _, _, _, by omega, ?_, ?_, ?_, ?_, ?_, rfl⟩)
            · exact below_step HBW.out (by go_grown)
            · exact HN.out.later (by go_grown)
            · try rw [show ((turn + 1 : Nat) : Int) = (turn : Int) + 1 from by omega]
              go_cell
            · go_cell
            · show w3.heap.size ≤ W.heap.size
              have := HBW.out.size
              omega
          · have t1 : ((2 : Int) != Wn.length) = true := by simp; omega
            clear hln
            go_wp2_with fail
            refine Handed.intro (gk - 1) (by omega) (HHJ.out _ _ _ ⟨0 + 1, _, D :: Ds, _, _, _, _, _, _, _, _, _, _, _, _, _, _, _, _, _, _, _, _, _, _, _, _, _, _, _, _, _, _, _, _, _, _, _, _, _, _, _, _, _, _, _, _, _, _, _, _, _, _, _, _, _, _, _, _, _, by omega, ?_, ?_, ?_, ?_, ?_, rfl⟩)
            · exact below_step HBW.out (by go_grown)
            · exact HN.out.later (by go_grown)
            · try rw [show ((turn + 1 : Nat) : Int) = (turn : Int) + 1 from by omega]
              go_cell
            · go_cell
            · show w3.heap.size ≤ W.heap.size
              have := HBW.out.size
              omega
      case body =>
        rintro l pre x W ⟨h1, h2, h3⟩ hlen
        obtain ⟨r, hr⟩ : ∃ r, pre.length = r := ⟨_, rfl⟩
        have HR := hide hr
        rw [hr] at h2 hlen
        simp only [vEnc, List.zip_toArray, List.zip_cons_cons, List.zip_nil_right, List.foldl_toArray, List.foldl_cons, List.foldl_nil, List.setIfInBounds_toArray, List.set_cons_zero, List.set_cons_succ]
        have HK1 : Hid (∀ a x, w3.cell? a = some x → W.cell? a = some x) := fun a x hx => h1.cell (later HBX.out hx) (HQ.out _ (block_lt_of_cell hx))
        have b6 := HK1.out _ _ HK6.out
        have c7 := h1.cell X7.out hq7
        have c4 := h1.cell C0X.out.1 (HQ.out _ hk4l)
        have g4 : W.frozen? ⟨k4, 0, none⟩ = false := by rw [World.frozen?_of_block (h1.block k4 (by have := HSX.out; omega) (HQ.out _ hk4l))]; exact C0X.out.2
        have HF1 := hide h1
        have HRET : Hid (Frame X (W.setCell ⟨k4, 0, none⟩ (.bool false)) (fun i => i = k4 ∨ i = wr.heap.size ∨ X.heap.size ≤ i) ∧ (W.setCell ⟨k4, 0, none⟩ (.bool false)).cell? ⟨k4, 0, none⟩ = some (.bool false)) := ⟨(h1.mono (fun i _ hi => Or.inr hi)).trans (Frame.set W _ _ (Or.inl rfl)), World.cell?_setCell_same' _ _ _ (by rw [c4]; rfl)⟩
        have i4 : (0 : Int) ≤ r := by omega
        clear h1 hr
        by_cases hrw : r < Wn.length
        · have hp2 := HPW.out (by omega)
          subst hp2
          have e0 := HK1.out _ _ (HGW.out r hrw)
          have HBAD : Hid (x ≠ iat Wn r → ∀ k, k ≤ Wn.length → ¬ pre ++ [x] = Wn.take k) := by
            intro hn k hk he
            have hlk := congrArg List.length he
            rw [List.length_take, Nat.min_eq_left hk, List.length_append, HR.out, List.length_singleton] at hlk
            subst hlk
            rw [take_more hrw] at he
            have he2 := (List.append_inj' he rfl).2
            simp only [List.cons.injEq, and_true] at he2
            exact hn he2
          have i2 : (r : Int) < Wn.length := by omega
          have i3 : ¬ (Wn.length : Int) ≤ r := by omega
          obtain ⟨y, hy⟩ : ∃ y, iat Wn r = y := ⟨_, rfl⟩
          rw [hy] at e0 HBAD
          clear hy hrw
          by_cases hx : x = y
          · have t1 : (x != y) = false := by simp [hx]
            clear hx HBAD HRET
            obtain ⟨W', hW'⟩ : ∃ W', W' = W.setCell ⟨wr.heap.size, 0, none⟩ (.int .i64 ((r : Int) + 1)) := ⟨_, rfl⟩
            have FIN : Hid (Frame W W' (fun i => i = wr.heap.size ∨ X.heap.size ≤ i) ∧ KeepsFrom X.heap.size W W' ∧ Frame X W' (fun i => i = wr.heap.size ∨ X.heap.size ≤ i) ∧ W'.cell? ⟨wr.heap.size, 0, none⟩ = some (.int .i64 ((pre ++ [x]).length : Nat)) ∧ W'.frozen? ⟨wr.heap.size, 0, none⟩ = false) := by
              rw [hW']
              refine ⟨Frame.set W _ _ (Or.inl rfl), (KeepsOthers.setCell _ _ _).from _, HF1.out.trans (Frame.set W _ _ (Or.inl rfl)), ?_, ?_⟩
              · rw [List.length_append, HR.out]
                exact World.cell?_setCell_same' _ _ _ (by rw [h2]; rfl)
              · rw [World.frozen?_setCell]; exact h3
            have FL : Hid ((pre ++ [x]).length = r + 1) := by show _ = _; rw [List.length_append, HR.out]; rfl
            by_cases hex : turn = 0 ∧ r = 1
            · have t3 : ((turn : Int) == 0) = true := by simp [hex.1]
              have t4 : ((r : Int) + 1 == 2) = true := by simp [hex.2]
              have HEX := hide hex
              clear hex
              gi_wp2
              rw [← hW']
              obtain ⟨_, f2, f3, f4, f5⟩ := FIN.out
              exact ⟨f2, Or.inr ⟨rfl, HEX.out.1, by rw [FL.out, HEX.out.2], f3, f4, f5⟩⟩
            · by_cases ht0 : turn = 0
              · have t3 : ((turn : Int) == 0) = true := by simp [ht0]
                have t4 : ((r : Int) + 1 == 2) = false := by
                  have : (r : Int) + 1 ≠ 2 := by omega
                  simp [this]
                clear ht0 hex
                gi_wp2
                rw [← hW']
                obtain ⟨f1, f2, f3, f4, f5⟩ := FIN.out
                exact ⟨f2, f1, f3, f4, f5⟩
              · have t3 : ((turn : Int) == 0) = false := beq_eq_false_iff_ne.2 (by omega)
                clear ht0 hex
                gi_wp2
                rw [← hW']
                obtain ⟨f1, f2, f3, f4, f5⟩ := FIN.out
                exact ⟨f2, f1, f3, f4, f5⟩
          · have t1 : (x != y) = true := by simp [hx]
            have HBAD := hide (HBAD.out hx)
            clear hx
            gi_wp2
            exact ⟨(KeepsOthers.setCell _ _ _).from _, Or.inl ⟨rfl, HBAD.out, HRET.out.1, HRET.out.2⟩⟩
        · have HBAD : Hid (∀ k, k ≤ Wn.length → ¬ pre ++ [x] = Wn.take k) := by
            intro k hk he
            have hlk := congrArg List.length he
            rw [List.length_take, Nat.min_eq_left hk, List.length_append, HR.out, List.length_singleton] at hlk
            omega
          have i3 : (Wn.length : Int) ≤ r := by omega
          clear hrw
          gi_wp2
          exact ⟨(KeepsOthers.setCell _ _ _).from _, Or.inl ⟨rfl, HBAD.out, HRET.out.1, HRET.out.2⟩⟩
    · have i1 : ¬ (turn : Int) < 2 := by omega
      obtain ⟨c6, g6⟩ := HC0.out
      go_wp2_with fail
      refine leave_marks (B := w3.heap.size) Ds _ ?_ ?_
      · refine ⟨HM.out.1, fun D hD => ⟨(HM.out.2 D hD).1, ?_⟩⟩
        exact (Below.heap_setCell _ _ _ D (by have := (HM.out.2 D hD).1; show D ≠ k4; omega)).trans (HM.out.2 D hD).2
      · intro W' hb hc
        have c7 := hc ⟨k4, 0, none⟩ (.bool true) (World.cell?_setCell_same' _ _ _ (by rw [c6]; rfl))
        refine ⟨.bool true, ?_, true, rfl, fun _ => rfl, ?_⟩
        · simp [results, Try.f44, go_sem, c7]
        · exact ((below_step HB3.out HBr.out).setCell (p := ⟨k4, 0, none⟩) (by show w.heap.size ≤ k4; omega) _).trans (hb.mono (by have := HB3.out.size; omega))
end Go.Proofs.Ytgfiofogcnnkhaa
