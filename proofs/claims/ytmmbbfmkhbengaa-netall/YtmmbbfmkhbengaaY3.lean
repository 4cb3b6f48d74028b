/- The document's Part. -/
import Derived.Test.YtmmbbfmkhbengaaY2
namespace Go.Proofs.Ytmmbbfmkhbengaa
open Go.RowKit Go.Sort
open Go

/-- Where each number stands, one more, by the first i of the list. -/
def raN (l : List Int) (m : Nat) : Nat → List Int
  | 0 => List.replicate m 0
  | i + 1 => (raN l m i).set (iat l i).toNat ((i : Int) + 1)
theorem raN_length (l : List Int) (m : Nat) : ∀ i, (raN l m i).length = m
  | 0 => by simp [raN]
  | i + 1 => by simp [raN, raN_length l m i]
theorem raN_pl (l : List Int) (m : Nat) {j : Nat} (hj : j < m) : ∀ i, iat (raN l m i) j = iat (plN l m i) j + 1
  | 0 => by simp only [raN, plN]; rw [iat_replicate m j 0 hj, iat_replicate m j (-1) hj]; rfl
  | i + 1 => by
    simp only [raN, plN]
    rw [iat_set _ _ _ _ (by rw [raN_length]; exact hj), iat_set _ _ _ _ (by rw [plN_length]; exact hj)]
    split
    · rfl
    · exact raN_pl l m hj i
theorem plN_in (l : List Int) (m : Nat) {j : Nat} (hj : j < m) : ∀ i, -1 ≤ iat (plN l m i) j ∧ iat (plN l m i) j < i
  | 0 => by simp only [plN]; rw [iat_replicate m j (-1) hj]; omega
  | i + 1 => by
    have := plN_in l m hj i
    simp only [plN]
    rw [iat_set _ _ _ _ (by rw [plN_length]; exact hj)]
    split <;> omega
/-- The edges and numbers that are taken of the first i. -/
def pkE (es : List Pt) (pl : List Int) (i : Nat) : List Pt := rename (pick es (takeN (fun j => insB pl (at' es j)) i)) pl
def pkL (es : List Pt) (pl : List Int) (i : Nat) : List Int := takeN (fun j => insB pl (at' es j)) i
theorem pk_yes {es : List Pt} {pl : List Int} {i : Nat} (h : insB pl (at' es i) = true) : pkE es pl (i + 1) = pkE es pl i ++ [⟨iat pl (at' es i).x.toNat, iat pl (at' es i).y.toNat⟩] ∧ pkL es pl (i + 1) = pkL es pl i ++ [(i : Int)] := by
  unfold pkE pkL
  simp only [takeN, h, if_true]
  refine ⟨?_, trivial⟩
  simp [pick, rename]
theorem pk_no {es : List Pt} {pl : List Int} {i : Nat} (h : insB pl (at' es i) = false) : pkE es pl (i + 1) = pkE es pl i ∧ pkL es pl (i + 1) = pkL es pl i := by
  unfold pkE pkL
  simp [takeN, h]
theorem pk_len (es : List Pt) (pl : List Int) (i : Nat) : (pkE es pl i).length = (pkL es pl i).length ∧ (pkL es pl i).length ≤ i := by
  unfold pkE pkL
  rw [rename_length, pick_length]
  exact ⟨rfl, takeN_length _ i⟩
/-- Edges and numbers lie in blocks of unlike types. -/
theorem apart_rows {w : World} {B B' : Nat} {u v : Value} {ps : List Pt} {l : List Int} (o : Owns w B v ps) (k : IOwns w B' u l) : (u.ownBlock = none ∨ u.ownBlock ≠ v.ownBlock) ∧ (v.ownBlock = none ∨ v.ownBlock ≠ u.ownBlock) := by
  cases hu : u.ownBlock with
  | none => exact ⟨Or.inl rfl, by cases hv : v.ownBlock with
      | none => exact Or.inl rfl
      | some g => exact Or.inr (fun h => by cases h)⟩
  | some g =>
    obtain ⟨_, ⟨h1, _⟩ | ⟨g1, c1, cur1, h1, h2, h3, _⟩⟩ := k
    · rw [h1] at hu; simp [Value.ownBlock] at hu
    · have hg : g1 = g := by rw [h1] at hu; simpa [Value.ownBlock] using hu
      rw [hg] at h3
      have := row_apart h3 o (by decide)
      exact ⟨Or.inr (fun e => this e.symm), Or.inr this⟩
/-- What Part has made of the first i edges. -/
structure PJ (W wr : World) (kx ga m : Nat) (nn : Int) (at_ : List Int) (q : Option Addr) (ln c : Nat) (s : Value) (E : List Pt) (L : List Int) : Prop where
  below : Below W.heap.size W wr
  pl : IRow wr W.heap.size ga m at_
  box : NOwn wr kx nn q ln c
  edges : Owns wr (kx + 1) (.slice q ln c) E
  nums : IOwns wr (kx + 1) s L
  size : kx + 1 ≤ wr.heap.size
variable {W wr wq : World} {kx ga m ln c : Nat} {nn : Int} {at_ : List Int} {q : Option Addr} {s : Value} {E : List Pt} {L : List Int}
theorem PJ.later (h : PJ W wr kx ga m nn at_ q ln c s E L) (hb : Below wr.heap.size wr wq) : PJ W wq kx ga m nn at_ q ln c s E L :=
  ⟨below_step h.below hb, h.pl.later hb, h.box.later hb, h.edges.later hb, h.nums.later hb, Nat.le_trans h.size hb.size⟩
theorem irow_below {w w' : World} {B base g n : Nat} {l : List Int} (h : IRow w base g n l) (hb : Below B w w') (hg : g < B) : IRow w' base g n l := by
  refine ⟨h.1, ?_⟩
  obtain ⟨h0, ⟨h1, h2⟩ | ⟨g1, cap, cur, h1, h2, h3, h4⟩⟩ := h.2
  · exact ⟨h0, Or.inl ⟨h1, h2⟩⟩
  · refine ⟨h0, Or.inr ⟨g1, cap, cur, h1, h2, ?_, h4⟩⟩
    have : g = g1 := by simpa [Value.ownBlock] using congrArg Value.ownBlock h1
    rw [hb.block g1 (by omega)]
    exact h3
/-- An edge more. -/
theorem PJ.edge (h : PJ W wr kx ga m nn at_ q ln c s E L) (hga : ga < kx) (hWk : W.heap.size ≤ kx) (hl : E.length = ln) (hb : ln ≤ 90000) (x y : Int) :
    ∃ q1 c1 D, (Builtin.append_ #[22, 22] 22 #[.slice q ln c, .slice (some ⟨wr.heap.size, 0, none⟩) 1 1]).run Try.prog (wr.alloc (.cells #[.int .i64 x, .int .i64 y] 60)) = .ok (.slice q1 (ln + 1) c1) D ∧
      PJ W (D.setCell ⟨kx, 1, none⟩ (.slice q1 (ln + 1) c1)) kx ga m nn at_ q1 (ln + 1) c1 s (E ++ [⟨x, y⟩]) L ∧ D.cell? ⟨kx, 1, none⟩ = some (.slice q ln c) ∧ D.frozen? ⟨kx, 1, none⟩ = false := by
  have o0 : Owns wr (kx + 1) (.slice q E.length c) E := by rw [hl]; exact h.edges
  obtain ⟨v', D, e1, o1, gr1, hbD⟩ := app1 o0 x y h.size (by omega)
  obtain ⟨q1, c1, rfl, _, _, _, _⟩ := o1.form
  rw [List.length_append, hl] at e1 o1
  simp only [List.length_cons, List.length_nil, Nat.zero_add] at e1 o1
  have nD := nown_below h.box hbD (by omega)
  refine ⟨q1, c1, D, e1, ⟨(Below.trans h.below (hbD.mono (by omega))).setCell (p := ⟨kx, 1, none⟩) hWk _, irow_other (irow_below h.pl hbD (by omega)) (by omega) _, nown_set1 nD _ _ _, owns_other o1 (by omega) _, ?_, ?_⟩, nD.2.1, nD.2.2.2⟩
  · refine iowns_other (?_ : IOwns D (kx + 1) s L) (by omega) _
    have a := h.nums.later (w' := wr.alloc (.cells #[.int .i64 x, .int .i64 y] 60)) (by go_grown)
    have b := o0.later (w' := wr.alloc (.cells #[.int .i64 x, .int .i64 y] 60)) (by go_grown)
    have := (apart_rows b a).1
    rw [hl] at this gr1
    exact World.ownsRow.kept a gr1 this
  · have := hbD.size; have := h.size; simp [World.setCell]; omega
/-- A number more. -/
theorem PJ.num (h : PJ W wr kx ga m nn at_ q ln c s E L) (hga : ga < kx) (hWk : W.heap.size ≤ kx) (hb : L.length ≤ 90000) (x : Int) :
    ∃ v' D, (Builtin.append_ #[25, 25] 25 #[s, .slice (some ⟨wr.heap.size, 0, none⟩) 1 1]).run Try.prog (wr.alloc (.cells #[.int .i64 x] 3)) = .ok v' D ∧ PJ W D kx ga m nn at_ q ln c v' E (L ++ [x]) := by
  have a := h.nums.later (w' := wr.alloc (.cells #[.int .i64 x] 3)) (by go_grown)
  obtain ⟨v', D, e1, o1, gr, _⟩ := append_int a (one_int wr x) (by have := h.size; simp; omega) hb
  have hbD : Below (kx + 1) wr D := below_grown (w := wr.alloc (.cells #[.int .i64 x] 3)) ((Below.refl _ _).alloc h.size _) a (Nat.le_refl _) (by have := h.size; simp; omega) gr
  have b := h.edges.later (w' := wr.alloc (.cells #[.int .i64 x] 3)) (by go_grown)
  refine ⟨v', D, e1, Below.trans h.below (hbD.mono (by omega)), irow_below h.pl hbD (by omega), nown_below h.box hbD (by omega), World.ownsRow.kept b gr ?_, o1, Nat.le_trans h.size hbD.size⟩
  exact (apart_rows b a).2
def RPartPost (m : Nat) (es : List Pt) (l : List Int) (w : World) (e : Ending) (w' : World) : Prop :=
  (errL l m = 0 ∧ ∃ q c s, e = .returned (.tuple #[nv l.length q (partN m es l).length c, s, .int .i64 0]) ∧ Owns w' w.heap.size (.slice q (partN m es l).length c) (partN m es l) ∧ IOwns w' w.heap.size s (which es (placesOf m l))) ∨ (errL l m ≠ 0 ∧ e = .returned (.tuple #[nv 0 none 0 0, .slice none 0 0, .int .i64 (errL l m)]))
set_option maxRecDepth 100000 in
set_option maxHeartbeats 8000000 in
theorem part45 (m : Nat) (p q : Option Addr) (es : List Pt) (l : List Int) (cp cq : Nat) (w : World) (hl : l.length ≤ 90000) (h : Has w p es) (hq : IHas w q l) (hm : netB m es = true) : Calls Try.prog 45 #[nv m p es.length cp, .slice q l.length cq] w fun e w' => RPartPost m es l w e w' ∧ Below w.heap.size w w' := by
  obtain ⟨W, hW, hb, a0, b0⟩ := two_nets w m p es.length cp
  obtain ⟨n0, n1, hes, hE⟩ := netB_is hm
  have C1 := hide (chosen52 q l cq m W (by unfold maxLen; omega) (hq.later hb))
  have HH := hide (h.later hb)
  have HQ := hide (hq.later hb)
  have HB := hide hb
  have HA := hide a0
  have HN := hide b0
  have HE := hide hE
  have hWs : W.heap.size = w.heap.size + 1 + 1 := by rw [hW]; simp
  have HWS := hide hWs
  obtain ⟨i0, hi0, hz0, hz1, hz2⟩ := info_parts info3
  clear h hq hb a0 b0 hWs hm hE
  go_enter Try.func45, Try.ntmps45
  go_wp2_with fail
  rw [← hW]
  clear hW
  obtain ⟨kb, hkb⟩ : ∃ kb, w.heap.size = kb := ⟨_, rfl⟩
  have HKB := hide hkb
  rw [hkb] at HA HN HWS ⊢
  clear hkb
  refine C1.out.mono ?_
  rintro e w1 ⟨rfl, hb1⟩
  have HB1 := hide hb1
  have HA1 := hide (HA.out.later hb1)
  have HN1 := hide (HN.out.later hb1)
  clear C1 hb1
  obtain ⟨q0, q1, _, _⟩ := HA1.out
  by_cases herr : errL l m = 0
  · have HER := hide herr
    rw [herr]
    have HIN : Hid (∀ j, j < l.length → 0 ≤ iat l j ∧ iat l j < m) := fun j hj => (chk_zero (errN_all _ herr j hj)).1
    clear herr
    go_wp2_with (refine wpList_make_full _ rfl (.tmp 24) (.tmp 24) 25 rfl w1.heap.size 3 i0 (.int .i64 0) 1 Try.underlying25 hi0 hz0 hz1 .i64 .i64 _ _ m rfl rfl rfl rfl ?c1 ?c2 ?c3 ?_)
    case c1 => rw [hz2]; omega
    case c2 => unfold maxLen; omega
    case c3 => exact Nat.le_refl _
    intro Y hown hgrow
    have HR0 := hide (irow_made hown)
    have HBY := hide (below_made hgrow)
    clear hown hgrow q0 q1
    obtain ⟨ga, hga⟩ : ∃ g, w1.heap.size = g := ⟨_, rfl⟩
    have HGA := hide hga
    have hsw := HB1.out.size
    rw [hga] at HR0 hsw ⊢
    clear hga
    go_wp2_with fail
    go_loopw [9] (fun t wr => ∃ i : Nat, i ≤ l.length ∧ t = .int .i64 i ∧ Hid (Below w1.heap.size w1 wr ∧ IRow wr ga ga m (raN l m i))) (fun t _ => l.length - (intOf t).toNat)
    case atStart => exact ⟨0, by omega, rfl, HBY.out, HR0.out⟩
    case round =>
      obtain ⟨i, hi, rfl, HR⟩ := hrel
      by_cases hlt : i < l.length
      · have i1 : (i : Int) < l.length := by omega
        have i2 : (0 : Int) ≤ i := by omega
        obtain ⟨x0, x1⟩ := HIN.out i hlt
        rcases HQ.out with hz | ⟨b2, off2, rfl, hL2⟩
        · subst hz; simp at hlt
        have c2 := later (below_step HB1.out HR.out.1) (hL2 i hlt)
        have HST : Hid (raN l m (i + 1) = (raN l m i).set (iat l i).toNat ((i : Int) + 1)) := rfl
        obtain ⟨x, hx⟩ : ∃ x : Nat, iat l i = x := ⟨(iat l i).toNat, by omega⟩
        rw [hx] at c2 x0 x1 HST
        rw [Int.toNat_natCast] at HST
        have hxm : x < m := by omega
        obtain ⟨d0, f0⟩ := HR.out.2.cell hxm
        obtain ⟨y, hy⟩ : ∃ y, iat (raN l m i) x = y := ⟨_, rfl⟩
        rw [hy] at d0
        have HSE : Hid (Below w1.heap.size w1 (wr.setCell ⟨ga, x, none⟩ (.int .i64 ((i : Int) + 1))) ∧ IRow (wr.setCell ⟨ga, x, none⟩ (.int .i64 ((i : Int) + 1))) ga ga m (raN l m (i + 1))) := ⟨HR.out.1.setCell (p := ⟨ga, x, none⟩) (by rw [HGA.out]; exact Nat.le_refl _) _, by rw [HST.out]; exact HR.out.2.set x _⟩
        clear hx hy hL2 HST
        go_wp2
        go_roundw
        case rel => exact ⟨i + 1, by omega, by go_num, HSE.out⟩
        case measure => simp [intOf]; omega
      · have hie : i = l.length := by omega
        subst hie
        have i1 : ¬ (l.length : Int) < l.length := by omega
        go_wp2_with fail
        obtain ⟨kx, hkx⟩ : ∃ k, wr.heap.size = k := ⟨_, rfl⟩
        obtain ⟨X, hX⟩ : ∃ X, X = wr.alloc (nbx l.length none 0 0) := ⟨_, rfl⟩
        have bX : Below wr.heap.size wr X := by rw [hX]; go_grown
        have hga2 := HR.out.2.lt
        have HP0 : Hid (PJ W X kx ga m l.length (raN l m l.length) none 0 0 (.slice none 0 0) (pkE es (plN l m l.length) 0) (pkL es (plN l m l.length) 0)) := by
          refine ⟨below_step (below_step HB1.out HR.out.1) bX, (HR.out.2.later bX).base (by have := HB1.out.size; omega), ?_, Owns.nil _ _, IOwns.nil _ _, ?_⟩
          · rw [hX, ← hkx]; exact ⟨by go_cell, by go_cell, by simp [go_sem], by simp [go_sem]⟩
          · rw [hX, ← hkx]; simp
        have hgk : ga < kx := by omega
        have hWk : W.heap.size ≤ kx := by have := HR.out.1.size; have := HB1.out.size; omega
        rw [← hX, hkx]
        clear hX hkx bX HR HR0 HBY i1 hga2
        go_loopw [11, 12] (fun s t wq => ∃ i : Nat, i ≤ es.length ∧ t = .int .i64 i ∧ ∃ q' ln c', Hid (PJ W wq kx ga m l.length (raN l m l.length) q' ln c' s (pkE es (plN l m l.length) i) (pkL es (plN l m l.length) i) ∧ (pkE es (plN l m l.length) i).length = ln)) (fun _ t _ => es.length - (intOf t).toNat)
        case atStart => exact ⟨0, by omega, rfl, none, 0, 0, HP0.out, rfl⟩
        case round =>
          obtain ⟨i, hi, rfl, q', ln, c', HR⟩ := hrel
          obtain ⟨ps, cs, hsv, _⟩ := IOwns.form HR.out.1.nums
          subst hsv
          obtain ⟨q0, q1, _, _⟩ := HA.out.later HR.out.1.below
          by_cases hlt : i < es.length
          · have i1 : (i : Int) < es.length := by omega
            have i2 : (0 : Int) ≤ i := by omega
            rcases HH.out with hz | ⟨b, off, rfl, hL⟩
            · subst hz; simp at hlt
            obtain ⟨c0, c1⟩ := hL.later HR.out.1.below i hlt
            obtain ⟨x0, x1, y0, y1⟩ := HE.out i hlt
            obtain ⟨x, hx⟩ : ∃ x : Nat, (at' es i).x = x := ⟨(at' es i).x.toNat, by omega⟩
            obtain ⟨y, hy⟩ : ∃ y : Nat, (at' es i).y = y := ⟨(at' es i).y.toNat, by omega⟩
            have HYS : Hid (insB (plN l m l.length) (at' es i) = true → pkE es (plN l m l.length) (i + 1) = pkE es (plN l m l.length) i ++ [⟨iat (plN l m l.length) x, iat (plN l m l.length) y⟩] ∧ pkL es (plN l m l.length) (i + 1) = pkL es (plN l m l.length) i ++ [(i : Int)]) := fun hh => by have := pk_yes hh; rw [hx, hy, Int.toNat_natCast, Int.toNat_natCast] at this; exact this
            have HNO := hide (@pk_no es (plN l m l.length) i)
            have HIB : Hid (insB (plN l m l.length) (at' es i) = (decide (iat (plN l m l.length) x ≠ -1) && decide (iat (plN l m l.length) y ≠ -1))) := by show _ = _; unfold insB; rw [hx, hy, Int.toNat_natCast, Int.toNat_natCast]
            rw [hx] at c0 x0 x1
            rw [hy] at c1 y0 y1
            have hxm : x < m := by omega
            have hym : y < m := by omega
            have d0 := (HR.out.1.pl.cell hxm).1
            have d1 := (HR.out.1.pl.cell hym).1
            have r0 := raN_pl l m hxm l.length
            have r1 := raN_pl l m hym l.length
            have s0 := plN_in l m hxm l.length
            have s1 := plN_in l m hym l.length
            rw [r0] at d0
            rw [r1] at d1
            obtain ⟨a, ha⟩ : ∃ a, iat (plN l m l.length) x = a := ⟨_, rfl⟩
            obtain ⟨b', hb'⟩ : ∃ b', iat (plN l m l.length) y = b' := ⟨_, rfl⟩
            rw [ha] at d0 s0 HYS HIB
            rw [hb'] at d1 s1 HYS HIB
            obtain ⟨hpl1, hpl2⟩ := pk_len es (plN l m l.length) i
            have HPL : Hid ((pkL es (plN l m l.length) i).length ≤ 10000 ∧ ln ≤ 10000) := ⟨by omega, by have := HR.out.2; omega⟩
            obtain ⟨E, hEE⟩ : ∃ E, pkE es (plN l m l.length) i = E := ⟨_, rfl⟩
            obtain ⟨L, hLL⟩ : ∃ L, pkL es (plN l m l.length) i = L := ⟨_, rfl⟩
            rw [hEE, hLL] at HR HYS
            rw [hLL] at HPL ⊢
            rw [hEE, hLL] at HNO
            have C0 := cell_regrown c0
            have C1 := cell_regrown c1
            have Q0 := cell_regrown q0
            have Q1 := cell_regrown q1
            have D0 := cell_regrown d0
            have D1 := cell_regrown d1
            have j1 : (x : Int) < m := by omega
            have j2 : (y : Int) < m := by omega
            have j3 : (0 : Int) ≤ x := by omega
            have j4 : (0 : Int) ≤ y := by omega
            clear hx hy hL r0 r1 ha hb' hEE hLL hpl1 hpl2
            go_upto_region 14 with fail
            refine wp_region_quiet_below (by kernel_rfl) (by kernel_rfl) ?_
            repeat (go_big_quiet_step (fail))
            refine wpQuiet_nil ?_
            intro X2 hw'
            have hb3 : Below wr.heap.size wr X2 := by
              obtain ⟨⟨dq, osq⟩, hw''⟩ := hw'
              rw [hw'']
              exact below_regrown wr dq osq
            have HJ := hide (HR.out.1.later hb3)
            have HEL := hide HR.out.2
            clear hw' hb3 c0 c1 q0 q1 C0 C1 Q0 Q1 d0 d1 D0 D1 HR
            by_cases hins : 0 ≤ a ∧ 0 ≤ b'
            · have t1 : a + 1 > 0 := by omega
              have t2 : b' + 1 > 0 := by omega
              have hy := HYS.out (by rw [HIB.out]; simp; omega)
              have HYE := hide hy
              obtain ⟨q1, c1, D, e1, pD, z1, z2⟩ := HJ.out.edge hgk hWk HEL.out (by have := HPL.out.2; omega) a b'
              obtain ⟨V, hV⟩ : ∃ V, V = D.setCell ⟨kx, 1, none⟩ (.slice q1 (ln + 1) c1) := ⟨_, rfl⟩
              rw [← hV] at pD
              obtain ⟨v2, D2, e2, pD2⟩ := pD.num hgk hWk (by have := HPL.out.1; omega) (i : Int)
              obtain ⟨p2, c2, hv2, _⟩ := IOwns.form pD2.nums
              subst hv2
              rw [show (L ++ [(i : Int)]).length = L.length + 1 by simp] at pD2 e2
              have HPD := hide pD2
              have k0 := HJ.out.box.2.1
              have f0 := HJ.out.box.2.2.2
              have hkl : kx < X2.heap.size := by have := HJ.out.size; omega
              have hkn : kx ≠ X2.heap.size := by omega
              have w1 : a + 1 - 1 = a := by omega
              have w2 : b' + 1 - 1 = b' := by omega
              clear hy pD2 pD HYS HNO HIB hins
              go_upto_region 17 with (at_builtin; refine wpList_run_append rfl (.tmp 75) (.tmp 81) 22 rfl 22 rfl _ _ _ D rfl rfl e1 ?_)
              clear e1 k0 f0
              rw [← hV]
              clear hV z1 z2
              go_wp2_with (at_builtin; refine wpList_run_append rfl (.tmp 84) (.tmp 86) 25 rfl 25 rfl _ _ _ D2 rfl rfl e2 ?_)
              clear e2
              go_wp2
              go_roundw
              case rel => exact ⟨i + 1, by omega, by go_num, q1, ln + 1, c1, by rw [HYE.out.1, HYE.out.2]; exact HPD.out, by rw [HYE.out.1, List.length_append, HEL.out]; rfl⟩
              case measure => simp [intOf]; omega
            · have hn := HNO.out (by rw [HIB.out]; simp; omega)
              have HNE := hide hn
              clear hn HYS HNO HIB
              by_cases ha0 : 0 ≤ a
              · have t1 : a + 1 > 0 := by omega
                have t2 : ¬ b' + 1 > 0 := by omega
                go_wp2
                go_roundw
                case rel => exact ⟨i + 1, by omega, by go_num, q', ln, c', by rw [HNE.out.1, HNE.out.2]; exact HJ.out, by rw [HNE.out.1]; exact HEL.out⟩
                case measure => simp [intOf]; omega
              · have t1 : ¬ a + 1 > 0 := by omega
                go_wp2
                go_roundw
                case rel => exact ⟨i + 1, by omega, by go_num, q', ln, c', by rw [HNE.out.1, HNE.out.2]; exact HJ.out, by rw [HNE.out.1]; exact HEL.out⟩
                case measure => simp [intOf]; omega
          · have hie : i = es.length := by omega
            subst hie
            have i1 : ¬ (es.length : Int) < es.length := by omega
            have HJ := hide HR.out.1
            have HEL := hide HR.out.2
            have nn := HN.out.later HR.out.1.below
            obtain ⟨n0, n1, n2, n3⟩ := nn
            obtain ⟨k0, k1, k2, k3⟩ := HR.out.1.box
            have HPN : Hid (pkE es (plN l m l.length) es.length = partN m es l ∧ pkL es (plN l m l.length) es.length = which es (placesOf m l)) := by
              have e1 : placesOf m l = plN l m l.length := by unfold placesOf; rw [Int.toNat_natCast]
              exact ⟨by unfold partN pkE which; rw [e1], by unfold which pkL; rw [e1]⟩
            have nk : kb + 1 ≠ kx := by have := HWS.out; omega
            have HNN := hide (HN.out.later HR.out.1.below)
            have hkb1 : kb + 1 < kx + 1 := by have := HWS.out; omega
            rw [HPN.out.1] at HEL
            have hel := HEL.out
            clear HR
            go_wp2_with fail
            refine bodyPost_ret (ret_net3 Try.results45 rfl rfl rfl (HNN.out.set _ _ _ _)) rfl ⟨Or.inl ⟨HER.out, q', c', _, by rw [hel]; rfl, ?_, ?_⟩, ?_⟩
            · have o := HJ.out.edges
              rw [HPN.out.1] at o
              rw [hel]
              exact (owns_other (owns_other o hkb1 _) hkb1 _).base (by rw [HKB.out]; omega)
            · have o := HJ.out.nums
              rw [HPN.out.2] at o
              exact (iowns_other (iowns_other o hkb1 _) hkb1 _).base (by rw [HKB.out]; omega)
            · have := below_step HB.out HJ.out.below
              exact (this.setCell (p := ⟨kb + 1, 0, none⟩) (by rw [HKB.out]; simp) _).setCell (p := ⟨kb + 1, 1, none⟩) (by rw [HKB.out]; simp) _
  · obtain ⟨er, her⟩ : ∃ er, errL l m = er := ⟨_, rfl⟩
    have HER := hide her
    rw [her] at herr ⊢
    have t1 : (er == 0) = false := by simp [herr]
    have t2 : (er != 0) = true := by simp [herr]
    obtain ⟨n0, n1, n2, n3⟩ := HN1.out
    clear her
    go_wp2_with fail
    refine bodyPost_ret (ret_net3 Try.results45 rfl rfl rfl (by first | exact HN1.out | exact HN1.out.set _ _ _ _)) rfl ⟨Or.inr ⟨by rw [HER.out]; exact herr, by rw [HER.out]; rfl⟩, ?_⟩
    have := below_step HB.out HB1.out
    first | exact this | exact (this.setCell (p := ⟨kb + 1, 0, none⟩) (by rw [HKB.out]; simp) _).setCell (p := ⟨kb + 1, 1, none⟩) (by rw [HKB.out]; simp) _
end Go.Proofs.Ytmmbbfmkhbengaa
