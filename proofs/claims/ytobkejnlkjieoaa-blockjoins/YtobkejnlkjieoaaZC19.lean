/- parted. -/
import Derived.Test.YtobkejnlkjieoaaZC7
import Derived.Test.YtobkejnlkjieoaaZC18
import Derived.Laws.EntriesVeiled
import Derived.Test.YtobkejnlkjieoaaZC11
namespace Go.Proofs.Ytobkejnlkjieoaa
open Go.RowKit Go.Sort
open Go
theorem QRow.base {w : World} {B B' g n : Nat} {rv : Nat → Value} {L : Nat → List Int} (h : QRow w B g n rv L) (hb : B' ≤ B) : QRow w B' g n rv L := ⟨owns_base h.own hb, h.row⟩
theorem SM.base {w : World} {B B' k n : Nat} {p : Option Addr} {es : List Pt} {cp gr gp gl go : Nat} {rv : Nat → Value} {vt vo sh : Value} {s : BS} (h : SM w B k n p es cp gr gp gl go rv vt vo sh s) (hb : B' ≤ B) : SM w B' k n p es cp gr gp gl go rv vt vo sh s :=
  ⟨owns_base h.box hb, h.pl.base hb, h.lw.base hb, owns_base h.ov hb, h.tr.base hb, h.op.base hb, h.rw.base hb, h.n1, h.n2, h.n3, h.n4, h.n5⟩
theorem SM.setShut {w : World} {B k n : Nat} {p : Option Addr} {es : List Pt} {cp gr gp gl go : Nat} {rv : Nat → Value} {vt vo sh : Value} {s : BS} (h : SM w B k n p es cp gr gp gl go rv vt vo sh s) (sh' : Value) : SM (w.setCell ⟨k, 9, none⟩ sh') B k n p es cp gr gp gl go rv vt vo sh' s := by
  obtain ⟨g1, g2, g3, g4, g5, g6, g7⟩ := h.field 9 sh'
  exact ⟨g1, g2, g3, g4, g5, g6, g7, h.n1, h.n2, h.n3, h.n4, h.n5⟩
theorem own_alloc (w : World) {B : Nat} (hB : B ≤ w.heap.size) (v : Value) (ty : TypeId) : (w.alloc (.cells #[v] ty)).ownsRow B ty 1 (.slice (some ⟨w.heap.size, 0, none⟩) 1 1) 1 [v] :=
  ⟨rfl, Or.inr ⟨w.heap.size, 1, #[v], rfl, hB, heap_alloc_new _ _, Nat.le_refl _, by unfold maxLen; omega, rfl, rfl⟩⟩
set_option maxRecDepth 100000 in
set_option maxHeartbeats 16000000 in
theorem parted37 (m : Nat) (p : Option Addr) (es : List Pt) (cp : Nat) (w : World) (h : Has w p es) (hm : netB m es = true) : Calls Try.prog 37 #[nv m p es.length cp] w fun e w' => ∃ g, e = .returned (.tuple #[.slice (some ⟨g, 0, none⟩) es.length es.length, .int .i64 (ptdB m es m).ct]) ∧ IRow w' w.heap.size g es.length (fnL es.length (ptdB m es m).bk) ∧ Below w.heap.size w w' := by
  obtain ⟨W, hW, hb, a0⟩ := one_net w m p es.length cp
  obtain ⟨n0, n1, hes, hE⟩ := netB_is hm
  have HM := hide hm
  have HH0 := hide h
  have HPB0 : Hid (∀ a, p = some a → es = [] ∨ a.block < w.heap.size) := fun a ha => by
    rcases h with h | ⟨b, off, h1, h2⟩
    · exact Or.inl h
    · by_cases he : es = []
      · exact Or.inl he
      · right
        have h3 := block_lt_of_cell (h2 0 (List.length_pos_iff.2 he)).1
        rw [h1] at ha
        injection ha with ha
        rw [← ha]
        exact h3
  have HH := hide (h.later hb)
  have HB := hide hb
  have HA := hide a0
  have hws : w.heap.size < W.heap.size := block_lt_of_cell a0.1
  have hWs : W.heap.size = w.heap.size + 1 := by rw [hW]; simp
  obtain ⟨q0, q1, _, _⟩ := a0
  clear h hb hE hm
  obtain ⟨j0, hj0, jz0, jz1, jz2⟩ := info_parts info3
  go_enter Try.func37, Try.ntmps37
  go_wp2_with (refine wpList_make_full _ rfl (.tmp 10) (.tmp 10) 32 rfl w.heap.size 3 j0 (.int .i64 0) 1 Try.underlying32 hj0 jz0 jz1 .i64 .i64 _ _ es.length rfl rfl rfl rfl ?c1 ?c2 ?c3 ?_)
  case c1 => rw [jz2]; omega
  case c2 => unfold maxLen; omega
  case c3 => simp
  intro w2 hown hgrow
  have hgrow' : W.grownBy w2 none := by rw [hW]; exact hgrow
  obtain ⟨gof, hgof⟩ : ∃ g, w.heap.size + 1 = g := ⟨_, rfl⟩
  have hb2 := below_made hgrow'
  have hof : IRow w2 w.heap.size gof es.length (fnL es.length zeroB.bk) := by
    rw [show fnL es.length zeroB.bk = List.replicate es.length 0 from fnL_const _ _, ← hgof]
    exact irow_made (by simpa using hown)
  obtain ⟨w3, hw3⟩ : ∃ w3, w3 = (w2.alloc (.cells #[.slice (some ⟨gof, 0, none⟩) es.length es.length] 32)).alloc (.cells #[.int .i64 0] 3) := ⟨_, rfl⟩
  have hbB : Below w.heap.size w W := HB.out
  have hsz2 : w.heap.size ≤ w2.heap.size := by have := hb2.size; omega
  have hb3 : Below w2.heap.size w2 w3 := by rw [hw3]; go_grown
  have hva : w3.ownsRow w.heap.size 32 1 (.slice (some ⟨w2.heap.size, 0, none⟩) 1 1) 1 [.slice (some ⟨gof, 0, none⟩) es.length es.length] := by
    rw [hw3]
    exact World.ownsRow.kept (own_alloc w2 hsz2 _ 32) (grown_below (by go_grown)) (Or.inr (by simp [Value.ownBlock]))
  have hvc : IRow w3 w.heap.size (w2.heap.size + 1) 1 [((zeroB.ct : Nat) : Int)] := by
    have := own_alloc (w2.alloc (.cells #[.slice (some ⟨gof, 0, none⟩) es.length es.length] 32)) (B := w.heap.size) (by simp; omega) (.int .i64 0) 3
    rw [← hw3] at this
    refine ⟨rfl, ?_⟩
    have this' : w3.ownsRow w.heap.size 3 1 (.slice (some ⟨w2.heap.size + 1, 0, none⟩) 1 1) 1 [.int .i64 0] := by simpa using this
    exact this'
  have hs3 : w3.heap.size = w2.heap.size + 2 := by rw [hw3]; simp
  have hgo2 : gof < w2.heap.size := hof.lt.2
  have HOF3 := hide (hof.later hb3)
  have HVA3 := hide hva
  have HVC3 := hide hvc
  have HW3 : Hid (Below W.heap.size W w3) := below_step hb2 hb3
  obtain ⟨co, hco⟩ : ∃ co, w2.heap.size = co := ⟨_, rfl⟩
  rw [hco] at HVA3 HVC3 hs3 hgo2 hsz2
  have HF3 : Hid (Frame w w3 (fun b => w.heap.size ≤ b)) := Frame.of_below (below_step HB.out (HW3.out)) _
  have C57 := hide (begin57 m p es cp w3 (HH.out.later HW3.out) HM.out)
  have HA3 := hide (HA.out.later HW3.out)
  obtain ⟨r0, r1, _, _⟩ := HA3.out
  have HGOF := hide hgof
  clear hown hgrow hgrow' hof hva hvc hb2 hb3 hbB q0 q1
  go_upto_region 2 with fail
  try rw [hgof]
  rw [← hw3]
  clear hw3
  go_wp2_with fail
  refine C57.out.mono ?_
  rintro e w4 ⟨k, gr, gp, gl, go, rv, rfl, hS, hb4, hrv⟩
  obtain ⟨w5, hw5⟩ : ∃ w5, w5 = w4.alloc (.cells #[.pointer (some ⟨k, 0, none⟩)] 82) := ⟨_, rfl⟩
  have hb5 : Below w4.heap.size w4 w5 := by rw [hw5]; go_grown
  have hs4 := hb4.size
  have hsz := hS.sizes
  have hvs : w5.ownsRow w.heap.size 82 1 (.slice (some ⟨w4.heap.size, 0, none⟩) 1 1) 1 [.pointer (some ⟨k, 0, none⟩)] := by rw [hw5]; exact own_alloc w4 (by omega) _ 82
  have hS5 := hS.later hb5
  have s0 : w5.cell? ⟨w4.heap.size, 0, none⟩ = some (.pointer (some ⟨k, 0, none⟩)) := World.ownsRow.cellAt hvs 0 (by omega)
  obtain ⟨c9, f9⟩ := hS5.cell 9 (by omega)
  simp only [List.getElem?_cons_succ, List.getElem?_cons_zero] at c9
  obtain ⟨cs, hcs⟩ : ∃ c, w4.heap.size = c := ⟨_, rfl⟩
  have HPM : Hid (PM (w5.setCell ⟨k, 9, none⟩ (shV cs (co + 1) co)) w.heap.size k m p es cp gr gp gl go cs (co + 1) co gof rv (.slice none 0 0) (.slice none 0 0) zeroB) := by
    have hkcs : k ≠ cs := by omega
    have f := Frame.set w5 ⟨k, 9, none⟩ (shV cs (co + 1) co) (p := fun b => b = k) rfl
    have hb45 : Below w3.heap.size w3 w5 := below_step hb4 hb5
    have o1 := HOF3.out.later hb45
    have o2 := World.ownsRow.kept HVA3.out (grown_below hb45) (Or.inr (by simp [Value.ownBlock]))
    have o3 := HVC3.out.later hb45
    have hk3 : co + 2 ≤ k := by omega
    refine ⟨(hS5.setShut _).base (by omega), ?_, ⟨o3.1, f.row o3.2 fun i hi e => ?_⟩, f.row o2 fun i hi e => ?_, ⟨o1.1, f.row o1.2 fun i hi e => ?_⟩, ⟨by omega, by omega, by omega, by omega, by omega, by omega⟩, ⟨by simp [Value.ownBlock], by simp [Value.ownBlock], by simp [Value.ownBlock], by simp [Value.ownBlock]⟩, fun v hv b hb => ?_, fun v hv b hb => ?_⟩
    · have hvs2 := hvs
      rw [hcs] at hvs2
      exact f.row hvs2 fun i hi e => by simp [Value.ownBlock] at hi; omega
    · simp [Value.ownBlock] at hi; omega
    · simp [Value.ownBlock] at hi; omega
    · simp [Value.ownBlock] at hi; omega
    · obtain ⟨z1, z2⟩ := hrv v hv b hb
      exact ⟨by omega, by omega, by omega, by omega⟩
    · have := (hrv v hv b hb).2
      have := hb5.size
      simp
      omega
  have HF5 : Hid (Frame w (w5.setCell ⟨k, 9, none⟩ (shV cs (co + 1) co)) (fun b => w.heap.size ≤ b)) := (HF3.out.trans (Frame.of_below (below_step hb4 hb5) (fun b => w.heap.size ≤ b))).trans (Frame.set _ _ _ (by show w.heap.size ≤ k; omega))
  have r0' := Ytobkejnlkjieoaa.later hb5 (Ytobkejnlkjieoaa.later hb4 r0)
  rw [hcs] at s0
  have hkw : w.heap.size ≠ k := by omega
  have HPB : Hid (∀ a, p = some a → es = [] ∨ a.block < w.heap.size) := fun a ha => HPB0.out a ha
  clear hS hS5 hvs hrv C57 HOF3 HVA3 HVC3 r0 r1 hs4 hsz
  go_upto_region 3 with fail
  try rw [hcs]
  rw [← hw5]
  clear hw5 hcs
  go_upto_region 4 with fail
  obtain ⟨w6, hw6⟩ : ∃ w6, w6 = w5.setCell ⟨k, 9, none⟩ (shV cs (co + 1) co) := ⟨_, rfl⟩
  have hw6' : w5.setCell ⟨k, 9, none⟩ (.func (.func 58) #[] #[.pointer (some ⟨cs, 0, none⟩), .pointer (some ⟨co + 1, 0, none⟩), .pointer (some ⟨co, 0, none⟩)]) = w6 := hw6.symm
  rw [hw6']
  have r6 : w6.cell? ⟨w.heap.size, 0, none⟩ = some (.int .i64 m) := by
    rw [hw6]
    exact other1' r0' hkw
  rw [← hw6] at HPM HF5
  clear hw6 hw6' c9 f9 s0 r0'
  go_wp2_with fail
  go_loopw [20] (fun t wr => ∃ v : Nat, v ≤ m ∧ t = .int .i64 v ∧ Hid (∃ rv vt vo, PM wr w.heap.size k m p es cp gr gp gl go cs (co + 1) co gof rv vt vo (ptdB m es v)) ∧ Hid (Frame w wr (fun b => w.heap.size ≤ b))) (fun t _ => m - (intOf t).toNat)
  case atStart => exact ⟨0, by omega, rfl, ⟨_, _, _, HPM.out⟩, HF5.out⟩
  case round =>
    clear HPM HF5 r6
    obtain ⟨v, hv, rfl, HP, HF⟩ := hrel
    obtain ⟨rv, vt, vo, hP⟩ := HP.out
    obtain ⟨s0, u1, _, u3⟩ := hP.vcell
    by_cases hlt : v < m
    · obtain ⟨c3, _⟩ := hP.sm.cell 3 (by omega)
      simp only [List.getElem?_cons_succ, List.getElem?_cons_zero] at c3
      obtain ⟨q0, _⟩ := hP.sm.pl.cell hlt
      rw [fnL_at _ hlt] at q0
      have HPP := hide hP
      have hOI := (par_out HM.out v hv).1
      have i1 : (v : Int) < m := by omega
      have i2 : (0 : Int) ≤ v := by omega
      have HDF : Hid (ptdB m es (v + 1) = if (ptdB m es v).pl v < 0 then throughB m es (ptdB m es v) v else ptdB m es v) := rfl
      by_cases hpl : (ptdB m es v).pl v < 0
      · have C59 := hide (through59 hP (HF.out.has HH0.out fun a ha => (HPB.out a ha).imp_right fun h => by omega) HPB.out HM.out hlt hOI hpl)
        rw [if_pos hpl] at HDF
        obtain ⟨P, hPp⟩ : ∃ P, (ptdB m es v).pl v = P := ⟨_, rfl⟩
        rw [hPp] at q0 hpl
        clear hP HP u1 u3 hPp hOI
        go_wp2_with fail
        refine C59.out.mono ?_
        rintro e w7 ⟨rfl, ⟨rv7, vt7, vo7, h7⟩, f7⟩
        have HP7 : Hid (PM w7 w.heap.size k m p es cp gr gp gl go cs (co + 1) co gof rv7 vt7 vo7 (ptdB m es (v + 1))) := by
          show PM _ _ _ _ _ _ _ _ _ _ _ _ _ _ _ _ _ _ _
          rw [HDF.out]; exact h7
        have HF7 : Hid (Frame w w7 (fun b => w.heap.size ≤ b)) := HF.out.trans f7
        clear h7 f7 C59 c3 q0 s0 HPP
        go_wp2
        go_roundw
        case rel => exact ⟨v + 1, by omega, by go_num, ⟨_, _, _, HP7.out⟩, HF7.out⟩
        case measure => simp [intOf]; omega
      · rw [if_neg hpl] at HDF
        have HP7 : Hid (PM wr w.heap.size k m p es cp gr gp gl go cs (co + 1) co gof rv vt vo (ptdB m es (v + 1))) := by
          show PM _ _ _ _ _ _ _ _ _ _ _ _ _ _ _ _ _ _ _
          rw [HDF.out]; exact hP
        obtain ⟨P, hPp⟩ : ∃ P, (ptdB m es v).pl v = P := ⟨_, rfl⟩
        rw [hPp] at q0 hpl
        have hP0 : 0 ≤ P := by omega
        clear hP HP u1 u3 hPp hOI hpl HPP
        go_wp2
        go_roundw
        case rel => exact ⟨v + 1, by omega, by go_num, ⟨_, _, _, HP7.out⟩, HF.out⟩
        case measure => simp [intOf]; omega
    · have hvm : v = m := by omega
      rw [hvm] at hP u1
      have hlt' : ¬ (v : Int) < m := by omega
      have HPP := hide hP
      obtain ⟨ct, hct⟩ : ∃ c, (ptdB m es m).ct = c := ⟨_, rfl⟩
      have u1' : wr.cell? ⟨co + 1, 0, none⟩ = some (.int .i64 (ct : Int)) := by rw [← hct]; exact u1
      have HCT := hide hct
      clear hP HP hvm hlt hct u1 s0
      go_upto_region 10 with fail
      go_region
      go_wp2
      go_ret2
      exact ⟨gof, by rw [HCT.out]; rfl, HPP.out.of.later (below_drew _), (HF.out.trans (Frame.of_below (below_drew _) _)).below (Nat.le_refl _) (fun i hi => hi)⟩
end Go.Proofs.Ytobkejnlkjieoaa

/- Pure: blocks numbered by their least edges; cut nodes; bridges. -/
namespace Go.Proofs.Ytobkejnlkjieoaa
open Go.RowKit Go.Sort
open Go
/-- The numbers given so far, of the first edges. -/
def nbB (of : Nat → Int) : Nat → (Nat → Int) × Nat
  | 0 => (fun _ => -1, 0)
  | e + 1 =>
    let r := nbB of e
    if r.1 (of e).toNat < 0 then (upd r.1 (of e).toNat (r.2 : Int), r.2 + 1) else r
theorem nb_cf {of : Nat → Int} {m c : Nat} (h : ∀ e, e < m → 0 ≤ of e ∧ of e < c) : ∀ e, e ≤ m → (nbB of e).2 = cf c (nbB of e).1 ∧ (∀ k, (nbB of e).1 k < (nbB of e).2) ∧ ∀ j, j < e → 0 ≤ (nbB of e).1 (of j).toNat := by
  intro e
  induction e with
  | zero => intro _; exact ⟨(cf_none c).symm, fun k => by show (-1 : Int) < ((0 : Nat) : Int); omega, fun j hj => by omega⟩
  | succ e ih =>
    intro he
    obtain ⟨h1, h2, h3⟩ := ih (by omega)
    have ho := h e (by omega)
    unfold nbB
    by_cases hn : (nbB of e).1 (of e).toNat < 0
    · simp only [hn, if_true]
      refine ⟨?_, fun k => ?_, fun j hj => ?_⟩
      · rw [cf_in (by omega) hn (by omega), h1]
      · unfold upd
        have := h2 k
        split <;> omega
      · by_cases e1 : (of j).toNat = (of e).toNat
        · rw [e1, upd_same]; omega
        · rw [upd_other _ _ e1]
          by_cases ej : j = e
          · exact absurd (by rw [ej]) e1
          · exact h3 j (by omega)
    · simp only [hn, if_false]
      refine ⟨h1, h2, fun j hj => ?_⟩
      by_cases ej : j = e
      · rw [ej]; omega
      · exact h3 j (by omega)
/-- A number that is given stays. -/
theorem nb_stays {of : Nat → Int} {e : Nat} {k : Nat} (h : 0 ≤ (nbB of e).1 k) : (nbB of (e + 1)).1 k = (nbB of e).1 k := by
  rw [nbB]
  by_cases hn : (nbB of e).1 (of e).toNat < 0
  · simp only [hn, if_true]
    rw [upd_other _ _ (fun e1 => by rw [e1] at h; omega)]
  · simp only [hn, if_false]
theorem nb_stays' {of : Nat → Int} {e e' : Nat} (he : e ≤ e') {k : Nat} (h : 0 ≤ (nbB of e).1 k) : (nbB of e').1 k = (nbB of e).1 k := by
  induction e' with
  | zero => rw [show e = 0 by omega]
  | succ e' ih =>
    by_cases hh : e = e' + 1
    · rw [hh]
    · have := ih (by omega)
      rw [nb_stays (by rw [this]; exact h), this]
/-- Of each edge the number of its block. -/
def noB (of : Nat → Int) (e : Nat) : Int := (nbB of (e + 1)).1 (of e).toNat
theorem no_in {of : Nat → Int} {m c : Nat} (h : ∀ e, e < m → 0 ≤ of e ∧ of e < c) {e : Nat} (he : e < m) : 0 ≤ noB of e ∧ noB of e < c := by
  obtain ⟨h1, h2, h3⟩ := nb_cf h (e + 1) (by omega)
  have a1 := h3 e (by omega)
  have a2 := h2 (of e).toNat
  have a3 := cf_le c (nbB of (e + 1)).1
  unfold noB
  omega
/-- Of each node the first block that has an edge there, and whether it has several: after so many half-edges. -/
def ctB (es : List Pt) (of : Nat → Int) : Nat → (Nat → Int) × (Nat → Bool)
  | 0 => (fun _ => -1, fun _ => false)
  | h + 1 =>
    let r := ctB es of h
    let v := fN es h
    let f := if r.1 v < 0 then upd r.1 v (of (h / 2)) else r.1
    (f, upd r.2 v (r.2 v || decide (f v ≠ of (h / 2))))
/-- The cut nodes, rising. -/
def cutB (n : Nat) (es : List Pt) (of : Nat → Int) : List Int := ((List.range n).filter fun v => (ctB es of (2 * es.length)).2 v).map fun (v : Nat) => (v : Int)
/-- What Blocks tells. -/
def ofB (n : Nat) (es : List Pt) (e : Nat) : Int := noB (ptdB n es n).bk e
def ctsB (n : Nat) (es : List Pt) : Nat := (ptdB n es n).ct
def cutsB (n : Nat) (es : List Pt) : List Int := cutB n es (ofB n es)
theorem of_in {n : Nat} {es : List Pt} (hm : netB n es = true) {e : Nat} (he : e < es.length) : 0 ≤ ofB n es e ∧ ofB n es e < ctsB n es :=
  no_in (fun _ h => par_in hm h) he
/-- How many of the first edges are in a block. -/
def szB (of : Nat → Int) : Nat → Nat → Nat
  | 0, _ => 0
  | e + 1, k => szB of e k + if of e = (k : Int) then 1 else 0
theorem sz_le (of : Nat → Int) (e k : Nat) : szB of e k ≤ e := by
  induction e with
  | zero => exact Nat.le_refl _
  | succ e ih => unfold szB; split <;> omega
/-- Whether an edge is alone in its block, and no loop. -/
def brB (es : List Pt) (of : Nat → Int) (e : Nat) : Bool := decide (szB of es.length (of e).toNat = 1) && decide ((at' es e).x ≠ (at' es e).y)
/-- The bridges, rising. -/
def bridB (n : Nat) (es : List Pt) : List Int := ((List.range es.length).filter fun e => brB es (ofB n es) e).map fun (e : Nat) => (e : Int)
theorem filt_more (m : Nat) (p : Nat → Bool) : ((List.range (m + 1)).filter p).map (fun (e : Nat) => (e : Int)) = ((List.range m).filter p).map (fun (e : Nat) => (e : Int)) ++ if p m then [(m : Int)] else [] := by
  rw [List.range_succ, List.filter_append, List.map_append]
  congr 1
  by_cases h : p m = true
  · rw [if_pos h, List.filter_cons_of_pos h]
    rfl
  · rw [if_neg h, List.filter_cons_of_neg h]
    rfl
theorem filt_length (m : Nat) (p : Nat → Bool) : (((List.range m).filter p).map fun (e : Nat) => (e : Int)).length ≤ m := by
  rw [List.length_map]
  exact Nat.le_trans (List.length_filter_le _ _) (by simp)
theorem bk_mem {m : Nat} {p : Nat → Bool} {x : Int} (h : x ∈ ((List.range m).filter p).map fun (e : Nat) => (e : Int)) : ∃ e : Nat, x = e ∧ e < m ∧ p e = true := by
  obtain ⟨e, h1, h2⟩ := List.mem_map.1 h
  obtain ⟨h3, h4⟩ := List.mem_filter.1 h1
  exact ⟨e, h2.symm, by simpa using h3, h4⟩
end Go.Proofs.Ytobkejnlkjieoaa

/- byLeastEdge. -/
namespace Go.Proofs.Ytobkejnlkjieoaa
open Go.RowKit Go.Sort
open Go
theorem IHas.at_ {w : World} {q : Option Addr} {l : List Int} (h : IHas w q l) {j : Nat} (hj : j < l.length) : ∃ b off, q = some ⟨b, off, none⟩ ∧ w.cell? ⟨b, off + j, none⟩ = some (.int .i64 (iat l j)) := by
  rcases h with h | ⟨b, off, h1, h2⟩
  · subst h; simp at hj
  · exact ⟨b, off, h1, h2 j hj⟩
/-- The first ones numbered. -/
def nmF (of : Nat → Int) (e : Nat) (j : Nat) : Int := if j < e then noB of j else 0
set_option maxRecDepth 100000 in
set_option maxHeartbeats 8000000 in
theorem least38 (c m : Nat) (q : Option Addr) (of : Nat → Int) (cq : Nat) (w : World) (h : IHas w q (fnL m of)) (hin : ∀ e, e < m → 0 ≤ of e ∧ of e < c) (hc : c ≤ 90000) (hm : m ≤ 90000) : Calls Try.prog 38 #[.slice q m cq, .int .i64 c] w fun e w' => ∃ g, e = .returned (.slice (some ⟨g, 0, none⟩) m m) ∧ IRow w' w.heap.size g m (fnL m (noB of)) ∧ Below w.heap.size w w' := by
  have HQ := hide h
  have HI := hide hin
  have CR := hide (repeat52 w.heap.size c (-1) (w.alloc (.cells #[.int .i64 (-1)] 3)) (by omega) (one_int _ _))
  have HBV : Hid (Below w.heap.size w (w.alloc (.cells #[.int .i64 (-1)] 3))) := by show Below _ _ _; go_grown
  obtain ⟨j0, hj0, jz0, jz1, jz2⟩ := info_parts info3
  clear h hin
  go_enter Try.func38, Try.ntmps38
  go_wp2_with fail
  refine CR.out.mono ?_
  rintro e w1 ⟨gn, rfl, hI, hb1⟩
  have hs1 := hI.lt
  have HB1 := hide (below_step HBV.out hb1)
  have hsz := HB1.out.size
  have HI1 : Hid (IRow w1 w.heap.size gn c (fnL c (nbB of 0).1)) := by
    show IRow _ _ _ _ _
    rw [show fnL c (nbB of 0).1 = List.replicate c (-1) from fnL_const _ _]
    exact hI.base (by simp)
  clear hI hb1 CR HBV
  go_wp2_with (refine wpList_make_full _ rfl (.tmp 14) (.tmp 14) 32 rfl w1.heap.size 3 j0 (.int .i64 0) 1 Try.underlying32 hj0 jz0 jz1 .i64 .i64 _ _ m rfl rfl rfl rfl ?c1 ?c2 ?c3 ?_)
  case c1 => rw [jz2]; omega
  case c2 => unfold maxLen; omega
  case c3 => exact Nat.le_refl _
  intro w2 hown hgrow
  obtain ⟨gm, hgm⟩ : ∃ g, w1.heap.size = g := ⟨_, rfl⟩
  have hb2 := below_made hgrow
  have HN2 : Hid (IRow w2 w.heap.size gm m (fnL m (nmF of 0))) := by
    show IRow _ _ _ _ _
    rw [show fnL m (nmF of 0) = List.replicate m 0 from by rw [← fnL_const]; unfold fnL; exact List.map_congr_left fun j _ => if_neg (Nat.not_lt_zero j)]
    rw [hgm] at hown
    exact (irow_made (by simpa using hown)).base (by omega)
  have HI2 := hide (HI1.out.later hb2)
  have HB2 := hide (below_step HB1.out hb2)
  have HNE : Hid (gn ≠ gm) := by show _ ≠ _; omega
  have HGG : Hid (w.heap.size ≤ gn ∧ w.heap.size ≤ gm) := ⟨by have := hs1.1; simp at this; omega, by omega⟩
  rw [hgm]
  clear hown hgrow hb2 hgm hs1 hsz HI1 HB1
  go_wp2_with fail
  go_loopw [7, 18] (fun t7 t18 wr => ∃ e : Nat, e ≤ m ∧ t18 = .int .i64 e ∧ t7 = .int .i64 ((nbB of e).2 : Nat) ∧ Hid (IRow wr w.heap.size gn c (fnL c (nbB of e).1)) ∧ Hid (IRow wr w.heap.size gm m (fnL m (nmF of e))) ∧ Hid (Below w.heap.size w wr)) (fun _ t _ => m - (intOf t).toNat)
  case atStart => exact ⟨0, by omega, rfl, rfl, HI2.out, HN2.out, HB2.out⟩
  case round =>
    clear HI2 HN2 HB2
    obtain ⟨e, he, rfl, rfl, HA, HN, HB⟩ := hrel
    by_cases hlt : e < m
    · obtain ⟨b, off, rfl, c0⟩ := (HQ.out.later HB.out).at_ (by rw [fnL_length]; exact hlt)
      rw [fnL_at _ hlt] at c0
      obtain ⟨o1, o2⟩ := HI.out e hlt
      obtain ⟨k, hk⟩ : ∃ k : Nat, of e = k := ⟨(of e).toNat, by omega⟩
      have hkc : k < c := by omega
      rw [hk] at c0
      obtain ⟨a0, a1⟩ := HA.out.cell hkc
      rw [fnL_at _ hkc] at a0
      obtain ⟨n0, n1⟩ := HN.out.cell hlt
      obtain ⟨nx, hnx⟩ : ∃ z, iat (fnL m (nmF of e)) e = z := ⟨_, rfl⟩
      rw [hnx] at n0
      have hcf := (nb_cf (c := c) HI.out e (by omega)).1
      have hcl := cf_le c (nbB of e).1
      have HST : Hid (nbB of (e + 1) = if (nbB of e).1 k < 0 then (upd (nbB of e).1 k ((nbB of e).2 : Int), (nbB of e).2 + 1) else nbB of e) := by
        show _ = _
        rw [nbB, hk]
        rfl
      have HNO : Hid (noB of e = (nbB of (e + 1)).1 k) := by show _ = _; unfold noB; rw [hk]; rfl
      have HNM : Hid ((fnL m (nmF of e)).set e (noB of e) = fnL m (nmF of (e + 1))) := by
        show _ = _
        rw [fnL_set _ hlt]
        unfold fnL
        refine List.map_congr_left fun j _ => ?_
        unfold upd nmF
        by_cases e1 : j = e
        · rw [if_pos e1, if_pos (by omega), e1]
        · rw [if_neg e1]
          by_cases e2 : j < e
          · rw [if_pos e2, if_pos (by omega)]
          · rw [if_neg e2, if_neg (by omega)]
      obtain ⟨a, ha⟩ : ∃ a, (nbB of e).1 k = a := ⟨_, rfl⟩
      obtain ⟨nt, hnt⟩ : ∃ z, (nbB of e).2 = z := ⟨_, rfl⟩
      rw [hnt] at hcf ⊢
      rw [ha] at a0
      have hntb : nt ≤ 90000 := by omega
      have i1 : (k : Int) < c := by omega
      have i2 : (0 : Int) ≤ k := by omega
      have i3 : (e : Int) < m := by omega
      have i4 : (0 : Int) ≤ e := by omega
      have hne := HNE.out
      obtain ⟨hg1, hg2⟩ := HGG.out
      clear o1 o2 hk hnx hcf hcl
      by_cases hneg : a < 0
      · have HA2 : Hid (IRow (wr.setCell ⟨gn, k, none⟩ (.int .i64 nt)) w.heap.size gn c (fnL c (nbB of (e + 1)).1)) := by
          have := HA.out.set k (nt : Int)
          rw [fnL_set _ hkc] at this
          rw [HST.out, ha, if_pos hneg, hnt]
          exact this
        have HT2 : Hid ((nbB of (e + 1)).2 = nt + 1) := by show _ = _; rw [HST.out, ha, if_pos hneg, hnt]
        have HV2 : Hid (noB of e = nt) := by show _ = _; rw [HNO.out, HST.out, ha, if_pos hneg, hnt]; exact upd_same _ _ _
        obtain ⟨U, hU⟩ : ∃ U, U = wr.setCell ⟨gn, k, none⟩ (.int .i64 nt) := ⟨_, rfl⟩
        rw [← hU] at HA2
        have HN2 : Hid (IRow U w.heap.size gm m (fnL m (nmF of e))) := by show IRow _ _ _ _ _; rw [hU]; exact irow_other HN.out hne _
        have HBU : Hid (Below w.heap.size w U) := by show Below _ _ _; rw [hU]; exact HB.out.setCell (p := ⟨gn, k, none⟩) hg1 _
        have HN3 : Hid (IRow (U.setCell ⟨gm, e, none⟩ (.int .i64 nt)) w.heap.size gm m (fnL m (nmF of (e + 1)))) := by
          have := HN2.out.set e (nt : Int)
          rw [show ((nt : Nat) : Int) = noB of e from HV2.out.symm, HNM.out] at this
          rw [show ((nt : Nat) : Int) = noB of e from HV2.out.symm]
          exact this
        have HA3 : Hid (IRow (U.setCell ⟨gm, e, none⟩ (.int .i64 nt)) w.heap.size gn c (fnL c (nbB of (e + 1)).1)) := irow_other HA2.out (Ne.symm hne) _
        have HB3 : Hid (Below w.heap.size w (U.setCell ⟨gm, e, none⟩ (.int .i64 nt))) := HBU.out.setCell (p := ⟨gm, e, none⟩) hg2 _
        obtain ⟨b0, b1⟩ := HA2.out.cell hkc
        rw [fnL_at _ hkc, ← HNO.out, HV2.out] at b0
        obtain ⟨d0, d1⟩ := HN2.out.cell hlt
        clear ha hnt HA HN HB HST HNO HNM HA2 HN2 HBU HV2
        go_upto_region 9 with fail
        rw [← hU]
        clear hU a0 a1 n0 n1 c0
        go_wp2
        go_roundw
        case rel => exact ⟨e + 1, by omega, by go_num, by rw [HT2.out]; go_num, HA3.out, HN3.out, HB3.out⟩
        case measure => simp [intOf]; omega
      · have hpos : 0 ≤ a := by omega
        have HA2 : Hid (fnL c (nbB of (e + 1)).1 = fnL c (nbB of e).1) := by show _ = _; rw [HST.out, ha, if_neg hneg]
        have HT2 : Hid ((nbB of (e + 1)).2 = nt) := by show _ = _; rw [HST.out, ha, if_neg hneg, hnt]
        have HV2 : Hid (noB of e = a) := by show _ = _; rw [HNO.out, HST.out, ha, if_neg hneg, ha]
        have HN3 : Hid (IRow (wr.setCell ⟨gm, e, none⟩ (.int .i64 a)) w.heap.size gm m (fnL m (nmF of (e + 1)))) := by
          have := HN.out.set e a
          rw [← HV2.out, HNM.out] at this
          rw [← HV2.out]
          exact this
        have HA3 : Hid (IRow (wr.setCell ⟨gm, e, none⟩ (.int .i64 a)) w.heap.size gn c (fnL c (nbB of (e + 1)).1)) := by show IRow _ _ _ _ _; rw [HA2.out]; exact irow_other HA.out (Ne.symm hne) _
        have HB3 : Hid (Below w.heap.size w (wr.setCell ⟨gm, e, none⟩ (.int .i64 a))) := HB.out.setCell (p := ⟨gm, e, none⟩) hg2 _
        clear ha hnt HA HN HB HST HNO HNM HA2 HV2 hneg
        go_wp2
        go_roundw
        case rel => exact ⟨e + 1, by omega, by go_num, by rw [HT2.out], HA3.out, HN3.out, HB3.out⟩
        case measure => simp [intOf]; omega
    · have hem : e = m := by omega
      have hlt' : ¬ (e : Int) < m := by omega
      have HN3 : Hid (IRow wr w.heap.size gm m (fnL m (noB of))) := by
        show IRow _ _ _ _ _
        rw [show fnL m (noB of) = fnL m (nmF of e) from by unfold fnL nmF; exact (List.map_congr_left fun j hj => if_pos (by rw [hem]; simpa using hj)).symm]
        exact HN.out
      clear hem hlt HA HN
      go_wp2
      go_ret
      exact ⟨gm, rfl, HN3.out, HB.out⟩
end Go.Proofs.Ytobkejnlkjieoaa
