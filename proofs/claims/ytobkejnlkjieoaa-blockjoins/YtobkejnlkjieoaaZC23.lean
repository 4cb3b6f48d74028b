/- climb. -/
import Derived.Test.YtobkejnlkjieoaaZC20
import Derived.Test.YtobkejnlkjieoaaZC22
import Derived.Deep.LoopGhost
import Derived.Test.YtobkejnlkjieoaaZWE11
import Derived.Test.YtobkejnlkjieoaaZC7
import Derived.Test.YtobkejnlkjieoaaZC18
namespace Go.Proofs.Ytobkejnlkjieoaa
open Go.RowKit Go.Sort
open Go
theorem tw_twn (k : Nat) : twn (k : Int) = (twinH k : Int) := by
  unfold twn twinH
  split <;> split <;> omega
/-- Up the tree to the first node that is on an ear. -/
def climbF (es : List Pt) (by_ : Nat → Int) : Nat → (Nat → Bool) → Nat → List Int × (Nat → Bool)
  | 0, on, _ => ([], on)
  | k + 1, on, v => if on v then ([], on) else ((twinH (by_ v).toNat : Int) :: (climbF es by_ k (upd on v true) (gN es (twinH (by_ v).toNat))).1, (climbF es by_ k (upd on v true) (gN es (twinH (by_ v).toNat))).2)
theorem cb_lt {m v : Nat} {f : Nat → Bool} (hv : v < m) (h : f v = false) : cb m f < m := by
  have := cb_in hv h
  have := cb_le m (upd f v true)
  omega
theorem climb_length (es : List Pt) (by_ : Nat → Int) : ∀ (k : Nat) (on : Nat → Bool) (v : Nat), (climbF es by_ k on v).1.length ≤ k
  | 0, _, _ => by simp [climbF]
  | k + 1, on, v => by
    unfold climbF
    split
    · simp
    · have := climb_length es by_ k (upd on v true) (gN es (twinH (by_ v).toNat))
      simp
      omega
/-- From here on up the way goes on. -/
def Up1 (m : Nat) (es : List Pt) (by_ : Nat → Int) (on : Nat → Bool) (G : Nat → Prop) : Prop := ∀ v, G v → v < m ∧ (on v = true ∨ (0 ≤ by_ v ∧ by_ v < 2 * es.length ∧ G (fN es (by_ v).toNat)))
set_option maxRecDepth 100000 in
set_option maxHeartbeats 8000000 in
theorem climb71 (m : Nat) (p q : Option Addr) (es : List Pt) (cp cq h : Nat) (by_ : Nat → Int) (B g : Nat) (on : Nat → Bool) (G : Nat → Prop) (w : World) (hh : Has w p es) (hm : netB m es = true) (hq : IHas w q (fnL m by_)) (ho : BRow w B g m on) (hpg : ∀ a, p = some a → es = [] ∨ ¬ a.block = g) (hqg : ∀ a, q = some a → ¬ a.block = g) (hl : h < 2 * es.length) (hG : Up1 m es by_ on G) (hg : G (gN es h)) :
    Calls Try.prog 71 #[nv m p es.length cp, .slice q m cq, .slice (some ⟨g, 0, none⟩) m m, .int .i64 h] w fun e w' => ∃ v, e = .returned v ∧ IOwns w' w.heap.size v ((h : Int) :: (climbF es by_ m on (gN es h)).1) ∧ BRow w' B g m (climbF es by_ m on (gN es h)).2 ∧ Frame w w' (fun b => b = g) := by
  obtain ⟨W, hW, hb, a0⟩ := one_net w m p es.length cp
  obtain ⟨n0, n1, hes, _⟩ := netB_is hm
  have HM := hide hm
  have HH := hide (hh.later hb)
  have HQ := hide (hq.later hb)
  have HO := hide (ho.later hb)
  have HB := hide hb
  have HA := hide a0
  have HPG := hide hpg
  have HQG := hide hqg
  have HG := hide hG
  have HG0 := hide hg
  have hgw : g < w.heap.size := ho.lt.2
  have hws : w.heap.size < W.heap.size := block_lt_of_cell a0.1
  obtain ⟨kb, hkb⟩ : ∃ kb, w.heap.size = kb := ⟨_, rfl⟩
  have HNE : Hid (kb ≠ g) := by show _ ≠ _; omega
  have HS : Hid (∀ V, Frame W V (fun b => b = g) → V.cell? ⟨kb, 0, none⟩ = some (.int .i64 m) ∧ V.cell? ⟨kb, 1, none⟩ = some (.slice p es.length cp)) := fun V hV => by
    obtain ⟨r0, r1, _, _⟩ := HA.out
    rw [hkb] at r0 r1
    exact ⟨hV.cell r0 HNE.out, hV.cell r1 HNE.out⟩
  have hg1 := toL_in hm h hl
  obtain ⟨x, hx⟩ : ∃ x : Nat, toL es h = x := ⟨(toL es h).toNat, by omega⟩
  have hgx : gN es h = x := by unfold gN; rw [hx]; simp
  rw [hgx] at HG0
  have HGX := hide hgx
  have hhb : h ≤ 100000 := by omega
  have HHL := hide hl
  obtain ⟨R, hR⟩ : ∃ R, climbF es by_ m on x = R := ⟨_, rfl⟩
  have HR := hide hR
  have hRl : R.1.length ≤ m := by rw [← hR]; exact climb_length es by_ m on x
  rw [hgx, hR]
  obtain ⟨V, hV⟩ : ∃ V, V = W.alloc (.cells #[.int .i64 (h : Int)] 3) := ⟨_, rfl⟩
  have hbV : Below W.heap.size W V := by rw [hV]; go_grown
  have HOW : Hid (IOwns V W.heap.size (.slice (some ⟨W.heap.size, 0, none⟩) 1 1) [(h : Int)]) := by
    show World.ownsRow _ _ _ _ _ _ _
    rw [hV]
    exact ⟨rfl, Or.inr ⟨W.heap.size, 1, #[.int .i64 (h : Int)], rfl, Nat.le_refl _, heap_alloc_new _ _, Nat.le_refl _, by unfold maxLen; omega, rfl, rfl⟩⟩
  have HFV : Hid (Frame W V (fun b => b = g)) := Frame.of_below hbV _
  have C70 := hide (comes54 m p es cp h V ((hh.later hb).later hbV) hl (by omega))
  obtain ⟨q0, q1⟩ := HS.out V HFV.out
  have HHV := hide hbV
  clear hh hm hq ho hb a0 hpg hqg hG hg hl hg1 hgx hR hbV
  go_enter Try.func71, Try.ntmps71
  go_upto_region 1 with fail
  rw [← hW]
  try rw [hkb]
  clear hW hkb
  go_upto_region 2 with fail
  rw [← hV]
  clear hV
  go_wp2_with fail
  refine C70.out.mono ?_
  rintro e w3 ⟨rfl, hb3⟩
  rw [hx]
  have HF3 : Hid (Frame W w3 (fun b => b = g)) := HFV.out.trans (Frame.of_below hb3 _)
  have HL3 := hide (HOW.out.later hb3)
  have HO3 := hide ((HO.out.later HHV.out).later hb3)
  obtain ⟨kl, hkl⟩ : ∃ k, W.heap.size = k := ⟨_, rfl⟩
  rw [hkl] at HL3 ⊢
  have HKL := hide hkl
  have HGL : Hid (g < kl) := by show _ < _; omega
  clear hb3 C70 q0 q1 hx HOW HHV HFV hkl hws
  go_wp2_with fail
  go_loopg [9, 10] (m + 1) (fun gk t9 t10 wr => ∃ (pl : Option Addr) (cl : Nat) (L : List Int) (on' : Nat → Bool) (v K : Nat), t9 = .slice pl L.length cl ∧ t10 = .int .i64 v ∧ K < gk ∧ L.length + K ≤ m + 1 ∧ Hid (m ≤ K + cb m on') ∧ Hid (G v) ∧ Hid (Up1 m es by_ on' G) ∧ Hid (L ++ (climbF es by_ K on' v).1 = (h : Int) :: R.1 ∧ (climbF es by_ K on' v).2 = R.2) ∧ Hid (IOwns wr kl (.slice pl L.length cl) L) ∧ Hid (BRow wr B g m on') ∧ Hid (Frame W wr (fun b => b = g)))
  case atStart => exact ⟨some ⟨kl, 0, none⟩, 1, [(h : Int)], on, x, m, rfl, rfl, by omega, by simp; omega, by show m ≤ _; omega, HG0.out, HG.out, ⟨by rw [HR.out]; rfl, by rw [HR.out]⟩, HL3.out, HO3.out, HF3.out⟩
  case round =>
    clear HF3 HL3 HO3
    obtain ⟨pl, cl, L, on', v, K, rfl, rfl, hKg, hLK, HK, HGv, HU, HE, HL, HO', HF⟩ := hrel
    obtain ⟨hvm, hor⟩ := HU.out v HGv.out
    obtain ⟨o0, o1⟩ := HO'.out.cell hvm
    have i1 : (v : Int) < m := by omega
    have i2 : (0 : Int) ≤ v := by omega
    cases hov : on' v
    · rw [hov] at o0 hor
      have hclt := cb_lt hvm hov
      have hci := cb_in hvm hov
      obtain ⟨K1, rfl⟩ : ∃ K1, K = K1 + 1 := ⟨K - 1, by have := HK.out; omega⟩
      have hE := HE.out
      rw [climbF, hov] at hE
      simp only [Bool.false_eq_true, if_false] at hE
      obtain ⟨hb0, hb1, hb2⟩ := hor.resolve_left (by simp)
      obtain ⟨u, hu⟩ : ∃ u : Nat, by_ v = u := ⟨(by_ v).toNat, by omega⟩
      rw [hu, Int.toNat_natCast] at hE hb2
      have hul : u < 2 * es.length := by omega
      obtain ⟨t1, t2, t3, t4⟩ := twin_is (es := es) hul
      have hgt : gN es (twinH u) = fN es u := by unfold gN fN; rw [t4]
      rw [hgt] at hE
      obtain ⟨b, off, rfl, c0⟩ := HQ.out.at_ (j := v) (by rw [fnL_length]; exact hvm)
      rw [fnL_at _ hvm, hu] at c0
      have c0' := HF.out.cell c0 (show ¬ b = g from HQG.out ⟨b, off, none⟩ rfl)
      have hfin := fg_in HM.out hul
      obtain ⟨y, hy⟩ : ∃ y, fN es u = y := ⟨_, rfl⟩
      have hty : toL es (twinH u) = y := by
        have := fromL_in HM.out u hul
        rw [t4, ← hy]; unfold fN; omega
      rw [hy] at hE hb2
      have hbx := xor_one u (by omega)
      rw [tw_twn] at hbx
      obtain ⟨tu, htu⟩ : ∃ t, twinH u = t := ⟨_, rfl⟩
      rw [htu] at hE hbx hty t1
      have HE2 : Hid ((L ++ [(tu : Int)]) ++ (climbF es by_ K1 (upd on' v true) y).1 = (h : Int) :: R.1 ∧ (climbF es by_ K1 (upd on' v true) y).2 = R.2) := ⟨by rw [← hE.1]; simp, hE.2⟩
      have HU2 : Hid (Up1 m es by_ (upd on' v true) G) := fun z hz => by
        obtain ⟨z1, z2⟩ := HU.out z hz
        refine ⟨z1, z2.imp_left fun hz3 => ?_⟩
        unfold upd
        split
        · rfl
        · exact hz3
      have HK2 : Hid (m ≤ K1 + cb m (upd on' v true)) := by show _ ≤ _; have := HK.out; omega
      have HGy : Hid (G y) := hb2
      obtain ⟨U, hU⟩ : ∃ U, U = wr.setCell ⟨g, v, none⟩ (.bool true) := ⟨_, rfl⟩
      have hFU : Frame W U (fun b => b = g) := by rw [hU]; exact HF.out.trans (Frame.set _ _ _ rfl)
      have hgk := HGL.out
      have hLU : IOwns U kl (.slice pl L.length cl) L := by
        rw [hU]
        exact iowns_other HL.out hgk _
      have hOU : BRow U B g m (upd on' v true) := by rw [hU]; exact HO'.out.put v true
      have hUs : kl ≤ U.heap.size := by
        have h1 := hFU.size
        have h2 := HKL.out
        omega
      obtain ⟨v1, D, e1, o1', hbD⟩ := push_int hLU (tu : Int) hUs (by omega)
      obtain ⟨p1, c1, hv1, _⟩ := o1'.form
      subst hv1
      have HFD : Hid (Frame W D (fun b => b = g)) := ⟨hbD.os.trans hFU.os, hbD.tape.trans hFU.tape, hbD.output.trans hFU.output, Nat.le_trans hFU.size hbD.size, fun i hi hp => (hbD.block i (by have := HKL.out; omega)).trans (hFU.block i hi hp)⟩
      have HOD : Hid (BRow D B g m (upd on' v true)) := by
        have f : Frame U D (fun b => kl ≤ b) := ⟨hbD.os, hbD.tape, hbD.output, hbD.size, fun i _ hp => hbD.block i (by omega)⟩
        exact f.row hOU fun i hi => by simp [Value.ownBlock] at hi; omega
      have HLD := hide o1'
      have C70 := hide (comes54 m p es cp tu D (HFD.out.has HH.out fun a ha => HPG.out a ha) t1 (by omega))
      obtain ⟨r0, r1⟩ := HS.out U hFU
      have c0U : U.cell? ⟨b, off + v, none⟩ = some (.int .i64 u) := by rw [hU]; exact other1' c0' (show ¬ b = g from HQG.out ⟨b, off, none⟩ rfl)
      have hub : u ≤ 100000 := by omega
      obtain ⟨r2, r3⟩ := HS.out D HFD.out
      have htb : tu ≤ 100000 := by omega
      have hLl : (L ++ [(tu : Int)]).length = L.length + 1 := by simp
      have HLLn := hide hLl
      clear hE hclt hci hb0 hb1 hb2 hul t2 t3 t4 hgt hfin hov hor hbD o1' hLU hOU hUs HK HGv HU HE HL HO' HF hu htu hy
      go_upto_region 5 with fail
      rw [← hU]
      clear hU o0 o1 c0 c0'
      go_upto_region 7 with (at_builtin; refine wpList_run_append rfl (.tmp 30) (.tmp 32) 32 rfl 32 rfl _ _ _ D rfl rfl e1 ?_)
      clear e1
      go_wp2_with fail
      refine C70.out.mono ?_
      rintro e w7 ⟨rfl, hb7⟩
      rw [hty]
      have HL7 := hide (HLD.out.later hb7)
      have HO7 := hide (HOD.out.later hb7)
      have HF7 : Hid (Frame W w7 (fun b => b = g)) := HFD.out.trans (Frame.of_below hb7 _)
      clear hb7 C70 r0 r1 r2 r3 c0U
      go_wp2
      go_roundg (K1 + 1)
      case measure => omega
      case rel => exact ⟨p1, c1, L ++ [(tu : Int)], upd on' v true, y, K1, by rw [HLLn.out], rfl, by omega, by simp; omega, HK2.out, HGy.out, HU2.out, HE2.out, HL7.out, HO7.out, HF7.out⟩
    · rw [hov] at o0
      have hE := HE.out
      have hE2 : L = (h : Int) :: R.1 ∧ on' = R.2 := by
        cases K with
        | zero => simpa [climbF] using hE
        | succ K => rw [climbF, if_pos hov] at hE; simpa using hE
      have HLL : Hid (IOwns wr w.heap.size (.slice pl L.length cl) ((h : Int) :: R.1)) := by
        show IOwns _ _ _ _
        have := HL.out.base (b' := w.heap.size) (by have := HKL.out; have := HB.out.size; omega)
        rw [← hE2.1]; exact this
      have HOO : Hid (BRow wr B g m R.2) := by show BRow _ _ _ _ _; rw [← hE2.2]; exact HO'.out
      have HFF : Hid (Frame w wr (fun b => b = g)) := (Frame.of_below HB.out _).trans HF.out
      clear hE hE2 HE HL HO' HF hov hor HU
      go_wp2
      go_ret
      exact ⟨_, rfl, HLL.out, HOO.out, HFF.out⟩
end Go.Proofs.Ytobkejnlkjieoaa

/- ears. -/
namespace Go.Proofs.Ytobkejnlkjieoaa
open Go.RowKit Go.Sort
open Go
theorem fnL_iat {m : Nat} {l : List Int} (h : l.length = m) : fnL m (iat l) = l := by
  unfold fnL
  subst h
  apply List.ext_getElem
  · simp
  intro i h1 h2
  simp only [List.getElem_map, List.getElem_range]
  unfold iat
  rw [List.getD_eq_getElem?_getD, List.getElem?_eq_getElem h2]
  rfl
/-- The walk's state: who is on an ear, and the ears. -/
abbrev ES := (Nat → Bool) × List (List Int)
/-- A half-edge looked at from a node. -/
def earH (es : List Pt) (m : Nat) (st : St) (v h : Nat) (s : ES) : ES :=
  if iat st.Fa v < iat st.Fa (gN es h) ∧ iat st.By (gN es h) ≠ (h : Int) then ((climbF es (iat st.By) m s.1 (gN es h)).2, s.2 ++ [(h : Int) :: (climbF es (iat st.By) m s.1 (gN es h)).1]) else s
/-- The first half-edges of a node. -/
def earV (es : List Pt) (m : Nat) (st : St) (v : Nat) (s : ES) : Nat → ES
  | 0 => s
  | k + 1 => earH es m st v (iat (ob es v) k).toNat (earV es m st v s k)
/-- The first nodes of the tour. -/
def earO (es : List Pt) (m : Nat) (st : St) : Nat → ES
  | 0 => (upd (fun _ => false) 0 true, [])
  | j + 1 => earV es m st (iat st.O j).toNat (earO es m st j) (ob es (iat st.O j).toNat).length
/-- What ears tells. -/
def earsB (m : Nat) (es : List Pt) : List (List Int) := (earO es m (dOneSt es m 0) (dOneSt es m 0).O.length).2
/-- Who is on an ear stays on one. -/
theorem climb_on (es : List Pt) (by_ : Nat → Int) : ∀ (k : Nat) (on : Nat → Bool) (v u : Nat), on u = true → (climbF es by_ k on v).2 u = true
  | 0, _, _, _, h => h
  | k + 1, on, v, u, h => by
    unfold climbF
    split
    · exact h
    · refine climb_on es by_ k _ _ u ?_
      unfold upd
      split
      · rfl
      · exact h
theorem earH_on {es : List Pt} {m : Nat} {st : St} {v h u : Nat} {s : ES} (hu : s.1 u = true) : (earH es m st v h s).1 u = true := by
  unfold earH
  split
  · exact climb_on _ _ _ _ _ _ hu
  · exact hu
theorem earV_on {es : List Pt} {m : Nat} {st : St} {v u : Nat} {s : ES} (hu : s.1 u = true) : ∀ k, (earV es m st v s k).1 u = true
  | 0 => hu
  | k + 1 => earH_on (earV_on hu k)
theorem earO_on {es : List Pt} {m : Nat} {st : St} : ∀ j, (earO es m st j).1 0 = true
  | 0 => by show upd (fun _ => false) 0 true 0 = true; exact upd_same _ _ _
  | j + 1 => earV_on (earO_on j) _
/-- From every node found the way up goes on. -/
theorem reach_up {es : List Pt} {m : Nat} {st : St} (r : Reach es m 0 st) {on : Nat → Bool} (h0 : on 0 = true) : Up1 m es (iat st.By) on fun v => v < m ∧ 0 ≤ iat st.Fa v := by
  rintro v ⟨hv, hf⟩
  refine ⟨hv, ?_⟩
  rcases r.tree.back v hv hf with ⟨h1, _⟩ | ⟨h, u, h1, h2, h3, h4, h5, h6⟩
  · rw [r.zero v hv h1]
    exact Or.inl h0
  · right
    rw [h3, Int.toNat_natCast]
    have hfu : fN es h = u := by unfold fN; rw [h5]; simp
    rw [hfu]
    exact ⟨by omega, by omega, h2, by
      have := h6
      omega⟩
/-- The ears in memory: lists of their own. -/
def EL (w : World) (B : Nat) (lv : Value) (E : List (List Int)) : Prop := ∃ rv : Nat → Value, w.ownsRow B 32 1 lv E.length ((List.range E.length).map rv) ∧ (∀ i, i < E.length → IOwns w B (rv i) (lat E i)) ∧ ∀ i j k, i < E.length → j < E.length → (rv i).ownBlock = some k → (rv j).ownBlock = some k → i = j
theorem EL.nil (w : World) (B : Nat) : EL w B (.slice none 0 0) [] := ⟨fun _ => .nilFunc, World.ownsRow_nil _ _ _ _, fun i h => by simp at h, fun i j k h => by simp at h⟩
theorem EL.frame {w w' : World} {B g : Nat} {lv : Value} {E : List (List Int)} (h : EL w B lv E) (f : Frame w w' (fun b => b = g)) (hg : g < B) : EL w' B lv E := by
  obtain ⟨rv, h1, h2, h3⟩ := h
  exact ⟨rv, f.row h1 fun i hi e => by have := (own_lt h1 hi).1; omega, fun i hi => f.iowns (h2 i hi) fun b hb e => by have := (own_lt (h2 i hi) hb).1; omega, h3⟩
theorem EL.later {w w' : World} {B : Nat} {lv : Value} {E : List (List Int)} (h : EL w B lv E) (hb : Below w.heap.size w w') : EL w' B lv E := by
  obtain ⟨rv, h1, h2, h3⟩ := h
  exact ⟨rv, (Frame.of_below hb fun _ => False).row h1 fun i _ e => e, fun i hi => (h2 i hi).later hb, h3⟩
theorem EL.base {w : World} {B B' : Nat} {lv : Value} {E : List (List Int)} (h : EL w B lv E) (hb : B' ≤ B) : EL w B' lv E := by
  obtain ⟨rv, h1, h2, h3⟩ := h
  exact ⟨rv, owns_base h1 hb, fun i hi => (h2 i hi).base hb, h3⟩
theorem EL.form {w : World} {B : Nat} {lv : Value} {E : List (List Int)} (h : EL w B lv E) : ∃ p c, lv = .slice p E.length c := by
  obtain ⟨rv, ⟨_, ⟨h1, h2⟩ | ⟨g, c, cur, h1, _⟩⟩, _, _⟩ := h
  · exact ⟨none, 0, by rw [h1, h2]⟩
  · exact ⟨_, _, h1⟩
theorem append_lst2 {w : World} {base g n : Nat} {v x : Value} {xs : List Value} (o : w.ownsRow base 32 1 v n xs) (hk : w.cell? ⟨g, 0, none⟩ = some x) (hx : x.oneCell' = true) (hb : base ≤ w.heap.size) (hl : n ≤ 10000000) :
    ∃ v' w', (Builtin.append_ #[29, 29] 29 #[v, .slice (some ⟨g, 0, none⟩) 1 1]).run Try.prog w = .ok v' w' ∧ w'.ownsRow base 32 1 v' (n + 1) (xs ++ [x]) ∧ w.grownBy w' v.ownBlock ∧ (v'.ownBlock = v.ownBlock ∨ v'.ownBlock = some w.heap.size) := by
  obtain ⟨i0, hi0, hz0, hz1, hz2⟩ := info_parts info41
  have hnews : ∀ j u, [x][j]? = some u → w.cell? ((⟨g, 0, none⟩ : Addr).add j) = some u := by
    intro j u hj
    cases j with
    | zero => simp at hj; subst hj; exact hk
    | succ k => simp at hj
  obtain ⟨v', w', h1, h2, h3, _, h5⟩ := run_append_own_at (P := Try.prog) w base 29 29 32 i0 (.slice none 0 0) 1 24 Try.underlying29 hi0 hz0 hz1 hz2 rfl (by decide) v n xs o ⟨g, 0, none⟩ 1 1 [x] rfl hnews (by simp [hx]) (by unfold maxLen; omega) (by omega) hb
  exact ⟨v', w', h1, h2, h3, h5⟩
theorem earV_len {es : List Pt} {m : Nat} {st : St} {v : Nat} {s : ES} : ∀ k, (earV es m st v s k).2.length ≤ s.2.length + k
  | 0 => Nat.le_refl _
  | k + 1 => by
    have := earV_len (es := es) (m := m) (st := st) (v := v) (s := s) k
    rw [earV]
    unfold earH
    split
    · simp only [List.length_append, List.length_singleton]; omega
    · omega
theorem earO_len {es : List Pt} {m : Nat} (hm : netB m es = true) {st : St} : ∀ j, (earO es m st j).2.length ≤ j * 6144
  | 0 => Nat.le_refl _
  | j + 1 => by
    have h1 := earO_len hm (st := st) j
    have h2 := earV_len (es := es) (m := m) (st := st) (v := (iat st.O j).toNat) (s := earO es m st j) (ob es (iat st.O j).toNat).length
    have h3 := ob_le hm (iat st.O j).toNat
    rw [earO]
    omega
/-- An ear more. -/
theorem EL.push {w1 w : World} {B g k : Nat} {lv : Value} {p : Option Addr} {l c : Nat} {E : List (List Int)} {L : List Int} (h : EL w1 B lv E) (f : Frame w1 w (fun b => b = g)) (hg : g < B) (hB : B ≤ w1.heap.size) (ho : IOwns w w1.heap.size (.slice p l c) L) (hk : w.cell? ⟨k, 0, none⟩ = some (.slice p l c)) (hl : E.length ≤ 10000000) :
    ∃ p' c' w', (Builtin.append_ #[29, 29] 29 #[lv, .slice (some ⟨k, 0, none⟩) 1 1]).run Try.prog w = .ok (.slice p' (E.length + 1) c') w' ∧ EL w' B (.slice p' (E.length + 1) c') (E ++ [L]) ∧ w.grownBy w' lv.ownBlock := by
  have hw := h.frame f hg
  obtain ⟨rv0, a1, a2, a3⟩ := h
  have hsep : ∀ i b, i < E.length → (rv0 i).ownBlock = some b → (Value.slice p l c).ownBlock ≠ some b := fun i b hi hb e => by
    have h1 := (own_lt (a2 i hi) hb).2
    have h2 := (own_lt ho e).1
    omega
  have b1 := f.row a1 fun i hi e => by have := (own_lt a1 hi).1; omega
  have b2 : ∀ i, i < E.length → IOwns w B (rv0 i) (lat E i) := fun i hi => f.iowns (a2 i hi) fun b hb e => by have := (own_lt (a2 i hi) hb).1; omega
  obtain ⟨v', w', e1, o1, gr, _⟩ := append_lst2 b1 hk rfl (by have := f.size; omega) hl
  obtain ⟨p', c', hv'⟩ : ∃ p' c', v' = .slice p' (E.length + 1) c' := by
    obtain ⟨_, ⟨h1, h2⟩ | ⟨g, c, cur, h1, _⟩⟩ := o1
    · omega
    · exact ⟨_, _, h1⟩
  subst hv'
  have F := Frame.grown (p := fun b => lv.ownBlock = some b) gr fun i hi => hi
  have o2 : ∀ i, i < E.length → IOwns w' B (rv0 i) (lat E i) := fun i hi => F.iowns (b2 i hi) fun b hb e => lst_apart b1 (b2 i hi) e hb
  have o3 : IOwns w' w1.heap.size (.slice p l c) L := F.iowns ho fun b hb e => lst_apart b1 ho e hb
  refine ⟨p', c', w', e1, ⟨fun i => if i < E.length then rv0 i else .slice p l c, ?_, fun i hi => ?_, fun i j b hi hj e2 e3 => ?_⟩, gr⟩
  · rw [List.length_append, List.length_singleton, List.range_succ, List.map_append]
    rw [show (List.range E.length).map (fun i => if i < E.length then rv0 i else Value.slice p l c) = (List.range E.length).map rv0 from List.map_congr_left fun i hi => if_pos (List.mem_range.1 hi)]
    simpa using o1
  · rw [List.length_append, List.length_singleton] at hi
    by_cases hi2 : i < E.length
    · simp only [hi2, if_true]
      unfold lat
      rw [List.getD_eq_getElem?_getD, List.getElem?_append_left hi2, ← List.getD_eq_getElem?_getD]
      exact o2 i hi2
    · simp only [hi2, if_false]
      have : i = E.length := by omega
      subst this
      unfold lat
      rw [List.getD_eq_getElem?_getD, List.getElem?_append_right (Nat.le_refl _), Nat.sub_self]
      exact o3.base hB
  · rw [List.length_append, List.length_singleton] at hi hj
    by_cases hi2 : i < E.length <;> by_cases hj2 : j < E.length
    · simp only [hi2, hj2, if_true] at e2 e3
      exact a3 i j b hi2 hj2 e2 e3
    · simp only [hi2, hj2, if_true, if_false] at e2 e3
      exact absurd e3 (hsep i b hi2 e2)
    · simp only [hi2, hj2, if_true, if_false] at e2 e3
      exact absurd e2 (hsep j b hj2 e3)
    · omega
end Go.Proofs.Ytobkejnlkjieoaa
