/- The document's All, in every world. -/
import Derived.Test.YtaebbfilgfkckaaKC4
import Derived.Test.YtaebbfilgfkckaaKBD
import Derived.Test.YtaebbfilgfkckaaX3
import Derived.Test.YtaebbfilgfkckaaKB3
import Derived.Test.YtaebbfilgfkckaaT2
import Derived.Deep.DeepCutAuto
import Derived.Test.YtaebbfilgfkckaaA3
import Derived.Test.YtaebbfilgfkckaaA6
import Derived.Test.YtaebbfilgfkckaaL1
/- The document's degrees, in every world. -/
namespace Go.Proofs.Ytaebbfilgfkckaa
open Go.RowKit Go.Sort
open Go
set_option maxRecDepth 100000 in
set_option maxHeartbeats 8000000 in
theorem degrees32 (m : Nat) (p q : Option Addr) (es : List Pt) (l : List Int) (cp cq : Nat) (w : World) (h : Has w p es) (k : IHas w q l) (hm : netB m es = true) (hin : ∀ j, j < l.length → 0 ≤ iat l j ∧ iat l j < es.length) (hl : l.length ≤ 10000) : Calls Try.prog 32 #[nv m p es.length cp, .slice q l.length cq] w fun e w' => ∃ g, e = .returned (.slice (some ⟨g, 0, none⟩) m m) ∧ IRow w' w.heap.size g m (degN (pick es l) m l.length) ∧ Below w.heap.size w w' := by
  obtain ⟨W, hW, hb, a0⟩ := one_net w m p es.length cp
  obtain ⟨n0, n1, hes, hEE⟩ := netB_is hm
  have HE := hide hEE
  have HH := hide (h.later hb)
  have HK := hide (k.later hb)
  have HIN := hide hin
  have HB := hide hb
  have HA := hide a0
  have hws : w.heap.size < W.heap.size := block_lt_of_cell a0.1
  have hWs : W.heap.size = w.heap.size + 1 := by rw [hW]; simp
  obtain ⟨q0, q1, _, _⟩ := a0
  clear h k hb hm hEE hin
  obtain ⟨i0, hi0, hz0, hz1, hz2⟩ := info_parts info3
  go_enter Try.func32, Try.ntmps32
  go_wp2_with (refine wpList_make_full _ rfl (.tmp 8) (.tmp 8) 25 rfl (w.alloc (nbx m p es.length cp)).heap.size 3 i0 (.int .i64 0) 1 Try.underlying25 hi0 hz0 hz1 .i64 .i64 _ _ m rfl rfl rfl rfl ?c1 ?c2 ?c3 ?_)
  case c1 => rw [hz2]; omega
  case c2 => unfold maxLen; omega
  case c3 => exact Nat.le_refl _
  intro w2 hown hgrow
  have hgrow' : W.grownBy w2 none := by rw [hW]; exact hgrow
  have HR2 := hide (irow_made hown)
  have hb2 := below_made hgrow'
  have HB2 := hide hb2
  have HSZ := hide hWs
  clear hown hgrow hgrow' hb2 hW hWs q0 q1
  go_wp2_with fail
  obtain ⟨g, hg⟩ : ∃ g, w.heap.size + 1 = g := ⟨_, rfl⟩
  obtain ⟨kb, hkb⟩ : ∃ kb, w.heap.size = kb := ⟨_, rfl⟩
  rw [hg] at HR2 HSZ ⊢
  rw [hkb] at HA hws ⊢
  have HKK := hide (And.intro hg hkb)
  clear hg hkb
  go_loopw [6] (fun t wr => ∃ i : Nat, i ≤ l.length ∧ t = .int .i64 i ∧ Hid (Below W.heap.size W wr) ∧ Hid (IRow wr g g m (degN (pick es l) m i))) (fun t _ => l.length - (intOf t).toNat)
  case atStart => exact ⟨0, by omega, rfl, HB2.out, HR2.out⟩
  case round =>
    obtain ⟨i, hi, rfl, HBr, HR⟩ := hrel
    obtain ⟨q0, q1, _, _⟩ := HA.out.later HBr.out
    by_cases hlt : i < l.length
    · have j1 : (i : Int) < l.length := by omega
      have j0 : (0 : Int) ≤ i := by omega
      obtain ⟨e0, e1⟩ := HIN.out i hlt
      obtain ⟨z, hz⟩ : ∃ z : Nat, iat l i = z := ⟨(iat l i).toNat, by omega⟩
      have hzl : z < es.length := by omega
      obtain ⟨bl, ol, rfl, hLl⟩ : ∃ b off, q = some ⟨b, off, none⟩ ∧ ILies W b off l := by
        rcases HK.out with e | e
        · rw [e] at hlt; simp at hlt
        · exact e
      obtain ⟨bp, op, rfl, hLp⟩ : ∃ b off, p = some ⟨b, off, none⟩ ∧ Lies W b off es := by
        rcases HH.out with e | e
        · rw [e] at hzl; simp at hzl
        · exact e
      have c0 := later HBr.out (hLl i hlt)
      rw [hz] at c0
      obtain ⟨d0, d1⟩ := hLp.later HBr.out z hzl
      obtain ⟨x0, x1, y0, y1⟩ := HE.out z hzl
      obtain ⟨x, hx⟩ : ∃ x : Nat, (at' es z).x = x := ⟨(at' es z).x.toNat, by omega⟩
      obtain ⟨y, hy⟩ : ∃ y : Nat, (at' es z).y = y := ⟨(at' es z).y.toNat, by omega⟩
      rw [hx] at d0 x0 x1
      rw [hy] at d1 y0 y1
      have HD : Hid (degN (pick es l) m (i + 1) = bump (bump (degN (pick es l) m i) x) y) := by
        show bump (bump _ (at' (pick es l) i).x.toNat) (at' (pick es l) i).y.toNat = _
        rw [pick_at _ _ hlt, hz, Int.toNat_natCast, hx, hy, Int.toNat_natCast, Int.toNat_natCast]
      have bx := degN_in (pick es l) m i x (by omega)
      obtain ⟨D, hDD⟩ : ∃ D, degN (pick es l) m i = D := ⟨_, rfl⟩
      rw [hDD] at HD HR bx
      obtain ⟨r0, r1⟩ := HR.out.cell (j := x) (by omega)
      have hgB : W.heap.size ≤ g := by rw [HSZ.out]; exact Nat.le_refl _
      have nbl : bl ≠ g := by have := block_lt_of_cell (hLl i hlt); simp at this; omega
      have nbp : bp ≠ g := by have := block_lt_of_cell (hLp z hzl).1; simp at this; omega
      have z1 : (z : Int) < es.length := by omega
      have z0 : (0 : Int) ≤ z := by omega
      have nkb : kb ≠ g := by omega
      have hl0 := hLl i hlt
      rw [hz] at hl0
      have hp1 := (hLp z hzl).2
      rw [hy] at hp1
      have by2 := degN_in (pick es l) m i y (by omega)
      rw [hDD] at by2
      clear hLl hLp hx hy hDD hz
      go_upto_region 5 with fail
      go_region
      obtain ⟨V, hV⟩ : ∃ V, V = (wr.setCell ⟨g, x, none⟩ (.int .i64 (iat D x + 1))).drew := ⟨_, rfl⟩
      have hRV : IRow V g g m (bump D x) := by rw [hV]; exact (HR.out.set x _).later (below_drew _)
      have hBV : Below W.heap.size W V := by rw [hV]; exact (HBr.out.setCell (by exact hgB) _).drew
      have c0' : V.cell? ⟨bl, ol + i, none⟩ = some (.int .i64 z) := later hBV hl0
      have d1' : V.cell? ⟨bp, op + z * 2 + 1, none⟩ = some (.int .i64 y) := later hBV hp1
      obtain ⟨q0', q1', _, _⟩ := HA.out.later hBV
      have hDl : D.length = m := HR.out.1
      have bx2 : 0 ≤ iat (bump D x) y ∧ iat (bump D x) y ≤ 2 * i + 1 := by
        rw [bump_at _ _ _ (by omega)]
        have := by2
        split <;> omega
      obtain ⟨r0', r1'⟩ := hRV.cell (j := y) (by omega)
      have HD2 : Hid (degN (pick es l) m (i + 1) = (bump D x).set y (iat (bump D x) y + 1)) := HD.out
      obtain ⟨D2, hD2⟩ : ∃ z, bump D x = z := ⟨_, rfl⟩
      rw [hD2] at hRV bx2 r0' HD2
      have HRV := hide hRV
      have HBV := hide hBV
      rw [← hV]
      clear hV hRV hBV hD2 hDl q0 q1 c0 d0 d1 r0 r1 hl0 hp1 by2
      go_wp2_with fail
      go_upto_region 6 with fail
      go_region
      go_wp2_with fail
      go_roundw
      case rel => exact ⟨i + 1, by omega, by go_num, (HBV.out.setCell (by exact hgB) _).drew, by show IRow _ _ _ _ _; rw [HD2.out]; exact (HRV.out.set y _).later (below_drew _)⟩
      case measure => simp [intOf]; omega
    · have hin : i = l.length := by omega
      have j1 : ¬ (i : Int) < l.length := by omega
      rw [hin] at HR
      clear hin
      go_wp2
      go_ret
      refine ⟨g, rfl, ⟨HR.out.1, HR.out.2.base ?_⟩, below_step HB.out HBr.out⟩
      have := HKK.out
      omega
end Go.Proofs.Ytaebbfilgfkckaa

/- Pure: the document's answers are the program's. -/
/- The document's sides, in every world. -/
/- Rows of slices in a row of rows; a list of slices that grows. -/
namespace Go.Proofs.Ytaebbfilgfkckaa
open Go.RowKit Go.Sort
open Go
theorem cell_off {U : World} {A A' : Addr} {u v s : Value} (h : U.cell? A = some v) (hA : U.cell? A' = some s) (hne : s ≠ v) : (U.setCell A' u).cell? A = some v := by
  rw [World.cell?_setCell_other _ _ _ _ (fun e => hne (by rw [e, h] at hA; injection hA with hA; exact hA.symm))]
  exact h
theorem ihas_off {U : World} {A' : Addr} {u : Value} {p : Option Addr} {a : Option Addr} {n c : Nat} {l : List Int} (h : IHas U p l) (hA : U.cell? A' = some (.slice a n c)) : IHas (U.setCell A' u) p l := by
  rcases h with h | ⟨b, off, rfl, hL⟩
  · exact Or.inl h
  · exact Or.inr ⟨b, off, rfl, fun j hj => cell_off (hL j hj) hA (by simp)⟩
theorem QRow.off {w : World} {B g n k i : Nat} {rv : Nat → Value} {L : Nat → List Int} {a : Option Addr} {m c : Nat} (h : QRow w B g n rv L) (hA : w.cell? ⟨k, i, none⟩ = some (.slice a m c)) (hne : k ≠ g) (v : Value) : QRow (w.setCell ⟨k, i, none⟩ v) B g n rv L := by
  refine ⟨ownsRow_setCell_other (a := ⟨k, i, none⟩) h.own (by simp [Value.ownBlock]; exact fun e => hne e.symm) v, fun x hx => ?_⟩
  obtain ⟨a', c', h1, h2, h3⟩ := h.row x hx
  exact ⟨a', c', h1, ihas_off h2 hA, h3⟩
/-- A list in blocks from T on. -/
def IHasB (T : Nat) (w : World) (p : Option Addr) (l : List Int) : Prop := IHas w p l ∧ (l ≠ [] → ∀ a, p = some a → T ≤ a.block)
theorem IHasB.later {T : Nat} {w w' : World} {p : Option Addr} {l : List Int} (h : IHasB T w p l) (hb : Below w.heap.size w w') : IHasB T w' p l := ⟨h.1.later hb, h.2⟩
theorem IHasB.set {T k i : Nat} {w : World} {p : Option Addr} {l : List Int} (h : IHasB T w p l) (hk : k < T) (v : Value) : IHasB T (w.setCell ⟨k, i, none⟩ v) p l := ⟨ihas_other h.1 fun hl ad e he => by have := h.2 hl ad e; omega, h.2⟩
theorem IHasB.base {T T' : Nat} {w : World} {p : Option Addr} {l : List Int} (h : IHasB T w p l) (hT : T' ≤ T) : IHasB T' w p l := ⟨h.1, fun hl a e => Nat.le_trans hT (h.2 hl a e)⟩
theorem IHasB.of {T B n c : Nat} {w : World} {p : Option Addr} {l : List Int} (h : IOwns w B (.slice p n c) l) (hT : T ≤ B) : IHasB T w p l := by
  obtain ⟨p', c', e, m, _⟩ := h.form
  injection e with e1 _ _
  refine ⟨by rw [e1]; exact m, fun _ a ha => ?_⟩
  have := (World.ownsRow.lt h a.block (by rw [ha]; rfl)).1
  omega
/-- Lists in blocks from T on. -/
def RHasB (T : Nat) (w : World) (p : Option Addr) (rs : List (List Int)) : Prop := rs = [] ∨ ∃ b off, p = some ⟨b, off, none⟩ ∧ T ≤ b ∧ ∀ v, v < rs.length → ∃ a c, w.cell? ⟨b, off + v, none⟩ = some (.slice a (lat rs v).length c) ∧ IHasB T w a (lat rs v) ∧ (lat rs v).length ≤ maxLen ∧ (lat rs v).length ≤ c ∧ (a = none → c = 0)
theorem RHasB.has {T : Nat} {w : World} {p : Option Addr} {rs : List (List Int)} (h : RHasB T w p rs) : RHas w p rs := by
  rcases h with h | ⟨b, off, e, _, h⟩
  · exact Or.inl h
  · exact Or.inr ⟨b, off, e, fun v hv => by obtain ⟨a, c, h1, h2, h3⟩ := h v hv; exact ⟨a, c, h1, h2.1, h3⟩⟩
theorem RHasB.later {T : Nat} {w w' : World} {p : Option Addr} {rs : List (List Int)} (h : RHasB T w p rs) (hb : Below w.heap.size w w') : RHasB T w' p rs := by
  rcases h with h | ⟨b, off, e, h0, h⟩
  · exact Or.inl h
  · exact Or.inr ⟨b, off, e, h0, fun v hv => by obtain ⟨a, c, h1, h2, h3⟩ := h v hv; exact ⟨a, c, Go.Proofs.Ytaebbfilgfkckaa.later hb h1, h2.later hb, h3⟩⟩
theorem RHasB.set {T k i : Nat} {w : World} {p : Option Addr} {rs : List (List Int)} (h : RHasB T w p rs) (hk : k < T) (u : Value) : RHasB T (w.setCell ⟨k, i, none⟩ u) p rs := by
  rcases h with h | ⟨b, off, e, h0, h⟩
  · exact Or.inl h
  · exact Or.inr ⟨b, off, e, h0, fun v hv => by obtain ⟨a, c, h1, h2, h3⟩ := h v hv; exact ⟨a, c, other1' h1 (by show b ≠ k; omega), h2.set hk u, h3⟩⟩
theorem RHasB.base {T T' : Nat} {w : World} {p : Option Addr} {rs : List (List Int)} (h : RHasB T w p rs) (hT : T' ≤ T) : RHasB T' w p rs := by
  rcases h with h | ⟨b, off, e, h0, h⟩
  · exact Or.inl h
  · exact Or.inr ⟨b, off, e, Nat.le_trans hT h0, fun v hv => by obtain ⟨a, c, h1, h2, h3⟩ := h v hv; exact ⟨a, c, h1, h2.base hT, h3⟩⟩
/-- A row whose slices are nil where their lists are empty, and nowhere else. -/
def WRow (w : World) (B g n : Nat) (L : Nat → List Int) : Prop := ∃ rv, QRow w B g n rv L ∧ ∀ x, x < n → (L x = [] → rv x = .slice none 0 0) ∧ (L x ≠ [] → ∃ ad c, rv x = .slice (some ad) (L x).length c ∧ B ≤ ad.block)
theorem WRow.later {w w' : World} {B g n : Nat} {L : Nat → List Int} (h : WRow w B g n L) (hb : Below w.heap.size w w') : WRow w' B g n L := by
  obtain ⟨rv, h1, h2⟩ := h
  exact ⟨rv, h1.later hb, h2⟩
theorem WRow.off {w : World} {B g n k i : Nat} {L : Nat → List Int} {a : Option Addr} {m c : Nat} (h : WRow w B g n L) (hA : w.cell? ⟨k, i, none⟩ = some (.slice a m c)) (hne : k ≠ g) (v : Value) : WRow (w.setCell ⟨k, i, none⟩ v) B g n L := by
  obtain ⟨rv, h1, h2⟩ := h
  exact ⟨rv, h1.off hA hne v, h2⟩
theorem WRow.lt {w : World} {B g n : Nat} {L : Nat → List Int} (h : WRow w B g n L) : B ≤ g ∧ g < w.heap.size := by
  obtain ⟨rv, h1, _⟩ := h
  exact h1.lt
/-- What stands in a row. -/
theorem WRow.look {w : World} {B g n x : Nat} {L : Nat → List Int} (h : WRow w B g n L) (hx : x < n) : (L x = [] ∧ w.cell? ⟨g, x, none⟩ = some (.slice none 0 0)) ∨ (L x ≠ [] ∧ ∃ ad c, w.cell? ⟨g, x, none⟩ = some (.slice (some ad) (L x).length c) ∧ IHas w (some ad) (L x) ∧ (L x).length ≤ maxLen ∧ (L x).length ≤ c ∧ B ≤ ad.block) := by
  obtain ⟨rv, h1, h2⟩ := h
  have c0 := (h1.cell hx).1
  by_cases e : L x = []
  · left; exact ⟨e, by rw [c0, (h2 x hx).1 e]⟩
  · right
    obtain ⟨ad, c, e2, e9⟩ := (h2 x hx).2 e
    obtain ⟨a', c', e3, e4, e5, e6, _⟩ := h1.row x hx
    rw [e2] at e3 c0
    injection e3 with e31 e32 e33
    subst e31 e33
    exact ⟨e, ad, c, c0, e4, e5, e6, e9⟩
theorem WRow.cellS {w : World} {B g n x : Nat} {L : Nat → List Int} (h : WRow w B g n L) (hx : x < n) : (∃ a m c, w.cell? ⟨g, x, none⟩ = some (.slice a m c)) ∧ w.frozen? ⟨g, x, none⟩ = false := by
  have hf : w.frozen? ⟨g, x, none⟩ = false := by
    obtain ⟨rv, h1, _⟩ := h
    exact (h1.cell hx).2
  rcases h.look hx with ⟨_, h1⟩ | ⟨_, ad, c, h1, _⟩
  · exact ⟨⟨_, _, _, h1⟩, hf⟩
  · exact ⟨⟨_, _, _, h1⟩, hf⟩
theorem WRow.set {w : World} {B g n k b c : Nat} {L : Nat → List Int} {l : List Int} (h : WRow w B g n L) (h1 : IHas w (some ⟨b, 0, none⟩) l) (h2 : l.length ≤ maxLen) (h3 : l.length ≤ c) (hl : l ≠ []) (hb : b ≠ g) (hT : B ≤ b) : WRow (w.setCell ⟨g, k, none⟩ (.slice (some ⟨b, 0, none⟩) l.length c)) B g n (upd L k l) := by
  obtain ⟨rv, h4, h5⟩ := h
  refine ⟨_, h4.set h1 h2 h3 (fun e => by cases e) (fun _ ad e => by injection e with e; rw [← e]; exact hb), fun x hx => ?_⟩
  by_cases e : x = k
  · rw [e, upd_same, upd_same]; exact ⟨fun e => absurd e hl, fun _ => ⟨_, _, rfl, hT⟩⟩
  · rw [upd_other _ _ e, upd_other _ _ e]; exact h5 x hx
theorem WRow.congr {w : World} {B g n : Nat} {L L' : Nat → List Int} (h : WRow w B g n L) (he : ∀ x, x < n → L x = L' x) : WRow w B g n L' := by
  obtain ⟨rv, h1, h2⟩ := h
  exact ⟨rv, h1.congr he, fun x hx => by rw [← he x hx]; exact h2 x hx⟩
theorem wrow_made {w : World} {base g n : Nat} (h : w.ownsRow base 25 1 (.slice (some ⟨g, 0, none⟩) n n) n (madeCells #[.slice none 0 0] n).toList) : WRow w base g n (fun _ => []) :=
  ⟨_, qrow_made h, fun _ _ => ⟨fun _ => rfl, fun e => absurd rfl e⟩⟩
/-- The first i rows of a row of rows. -/
structure Wy (w : World) (B g n i : Nat) (gs : Nat → Nat) (X : Nat → Nat → List Int) : Prop where
  own : w.ownsRow B 30 1 (.slice (some ⟨g, 0, none⟩) n n) n ((List.range n).map fun j => if j < i then .slice (some ⟨gs j, 0, none⟩) n n else .slice none 0 0)
  row : ∀ j, j < i → WRow w B (gs j) n (X j)
  inj : ∀ j k, j < i → k < i → gs j = gs k → j = k
theorem Wy.later {w w' : World} {B g n i : Nat} {gs : Nat → Nat} {X : Nat → Nat → List Int} (h : Wy w B g n i gs X) (hb : Below w.heap.size w w') : Wy w' B g n i gs X :=
  ⟨World.ownsRow.kept h.own (grown_below hb) (Or.inr (by simp [Value.ownBlock])), fun j hj => (h.row j hj).later hb, h.inj⟩
theorem Wy.lt {w : World} {B g n i : Nat} {gs : Nat → Nat} {X : Nat → Nat → List Int} (h : Wy w B g n i gs X) : B ≤ g ∧ g < w.heap.size := World.ownsRow.lt h.own g rfl
theorem Wy.cell {w : World} {B g n i j : Nat} {gs : Nat → Nat} {X : Nat → Nat → List Int} (h : Wy w B g n i gs X) (hj : j < n) : w.cell? ⟨g, j, none⟩ = some (if j < i then .slice (some ⟨gs j, 0, none⟩) n n else .slice none 0 0) ∧ w.frozen? ⟨g, j, none⟩ = false := by
  refine ⟨?_, World.ownsRow.frozenAt h.own j⟩
  rw [World.ownsRow.cellAt h.own j (by omega)]
  simp [hj]
theorem Wy.ne {w : World} {B g n i j : Nat} {gs : Nat → Nat} {X : Nat → Nat → List Int} (h : Wy w B g n i gs X) (hj : j < i) : g ≠ gs j := fun e => by
  obtain ⟨c1, h1⟩ := row_kind h.own
  obtain ⟨rv, hq, _⟩ := h.row j hj
  obtain ⟨c2, h2⟩ := row_kind hq.own
  rw [← e, h1] at h2
  injection h2 with h2
  injection h2 with _ h3 _
  exact absurd h3 (by decide)
theorem wys_none {w : World} {base g n : Nat} (h : w.ownsRow base 30 1 (.slice (some ⟨g, 0, none⟩) n n) n (madeCells #[.slice none 0 0] n).toList) (gs : Nat → Nat) (X : Nat → Nat → List Int) : Wy w base g n 0 gs X := by
  rw [toList_madeCells_one] at h
  refine ⟨?_, fun j hj => by omega, fun j k hj => by omega⟩
  rw [show ((List.range n).map fun j => if j < 0 then Value.slice (some ⟨gs j, 0, none⟩) n n else .slice none 0 0) = List.replicate n (.slice none 0 0) from by apply List.ext_getElem <;> simp]
  exact h
/-- One row more. -/
theorem Wy.put {w : World} {B g n i g' : Nat} {gs : Nat → Nat} {X : Nat → Nat → List Int} {L : Nat → List Int} (h : Wy w B g n i gs X) (hi : i < n) (r : WRow w B g' n L) (hf : ∀ j, j < i → gs j ≠ g') (hg : g ≠ g') : Wy (w.setCell ⟨g, i, none⟩ (.slice (some ⟨g', 0, none⟩) n n)) B g n (i + 1) (upd gs i g') (upd X i L) := by
  have hc := (h.cell hi).1
  rw [if_neg (by omega)] at hc
  refine ⟨?_, fun j hj => ?_, fun j k hj hk e => ?_⟩
  · have q := (World.ownsRow.stored h.own i (.slice (some ⟨g', 0, none⟩) n n)).1
    rw [show ((List.range n).map fun j => if j < i + 1 then Value.slice (some ⟨upd gs i g' j, 0, none⟩) n n else .slice none 0 0) = ((List.range n).map fun j => if j < i then Value.slice (some ⟨gs j, 0, none⟩) n n else .slice none 0 0).set i (.slice (some ⟨g', 0, none⟩) n n) from ?_]
    · exact q
    apply List.ext_getElem
    · simp
    intro k h4 h5
    simp only [List.getElem_map, List.getElem_range, List.getElem_set]
    by_cases hia : i = k
    · subst hia; rw [if_pos (by omega), if_pos rfl, upd_same]
    · rw [if_neg hia]
      by_cases hk : k < i
      · rw [if_pos (by omega), if_pos hk, upd_other _ _ (fun e => hia e.symm)]
      · rw [if_neg (by omega), if_neg hk]
  · by_cases e : j = i
    · rw [e, upd_same, upd_same]
      exact r.off hc hg _
    · rw [upd_other _ _ e, upd_other _ _ e]
      exact (h.row j (by omega)).off hc (h.ne (by omega)) _
  · by_cases e1 : j = i <;> by_cases e2 : k = i
    · omega
    · rw [e1, upd_same, upd_other _ _ e2] at e
      exact absurd e.symm (hf k (by omega))
    · rw [e2, upd_same, upd_other _ _ e1] at e
      exact absurd e (hf j (by omega))
    · rw [upd_other _ _ e1, upd_other _ _ e2] at e
      exact h.inj j k (by omega) (by omega) e
/-- A path is laid into a row. -/
theorem Wy.set {w : World} {B g n i k x b c : Nat} {gs : Nat → Nat} {X : Nat → Nat → List Int} {l : List Int} (h : Wy w B g n i gs X) (hk : k < i) (hx : x < n) (h1 : IHas w (some ⟨b, 0, none⟩) l) (h2 : l.length ≤ maxLen) (h3 : l.length ≤ c) (hl : l ≠ []) (hb : b ≠ gs k) (hT : B ≤ b) : Wy (w.setCell ⟨gs k, x, none⟩ (.slice (some ⟨b, 0, none⟩) l.length c)) B g n i gs (upd X k (upd (X k) x l)) := by
  obtain ⟨⟨a', m', c', hc⟩, _⟩ := (h.row k hk).cellS hx
  refine ⟨ownsRow_setCell_other (a := ⟨gs k, x, none⟩) h.own (by simp [Value.ownBlock]; exact h.ne hk) _, fun j hj => ?_, h.inj⟩
  by_cases e : j = k
  · rw [e, upd_same]; exact (h.row k hk).set h1 h2 h3 hl hb hT
  · rw [upd_other _ _ e]
    exact (h.row j hj).off hc (fun e2 => e (h.inj j k hj hk e2.symm)) _
theorem Wy.congr {w : World} {B g n i : Nat} {gs : Nat → Nat} {X X' : Nat → Nat → List Int} (h : Wy w B g n i gs X) (he : ∀ j, j < i → ∀ x, x < n → X j x = X' j x) : Wy w B g n i gs X' := ⟨h.own, fun j hj => (h.row j hj).congr (he j hj), h.inj⟩
/-- A slice that can be read. -/
def PSl (T : Nat) (w : World) (v : Value) (l : List Int) : Prop := ∃ a c, v = .slice a l.length c ∧ IHasB T w a l ∧ l.length ≤ maxLen ∧ l.length ≤ c ∧ (a = none → c = 0)
/-- A list of slices, grown since a world in which they can be read. -/
structure SB (T : Nat) (W w : World) (fv : Value) (F : List (List Int)) (rv : Nat → Value) : Prop where
  lst : w.ownsRow W.heap.size 25 1 fv F.length ((List.range F.length).map rv)
  row : ∀ v, v < F.length → PSl T W (rv v) (lat F v)
theorem SB.nil (T : Nat) (W : World) : SB T W W (.slice none 0 0) [] (fun _ => .slice none 0 0) := ⟨World.ownsRow_nil _ _ _ _, fun v hv => by simp at hv⟩
theorem SB.later {T : Nat} {W w w' : World} {fv : Value} {F : List (List Int)} {rv : Nat → Value} (h : SB T W w fv F rv) (hb : Below w.heap.size w w') : SB T W w' fv F rv :=
  ⟨World.ownsRow.kept h.lst (grown_below hb) (by cases fv.ownBlock <;> simp), h.row⟩
theorem lat_snoc {F : List (List Int)} {L : List Int} {v : Nat} : lat (F ++ [L]) v = if v < F.length then lat F v else if v = F.length then L else [] := by
  unfold lat
  rw [List.getD_eq_getElem?_getD, List.getElem?_append]
  split
  · rw [List.getD_eq_getElem?_getD]
  · rename_i h
    by_cases e : v = F.length
    · subst e; simp
    · rw [if_neg e, List.getElem?_eq_none (by simp; omega)]
      rfl
theorem append_lst3 {w : World} {base g : Nat} {v x : Value} {n : Nat} {xs : List Value} (o : w.ownsRow base 25 1 v n xs) (hk : w.cell? ⟨g, 0, none⟩ = some x) (hx : x.oneCell' = true) (hb : base ≤ w.heap.size) (hl : n ≤ 2000000) :
    ∃ v' w', (Builtin.append_ #[30, 30] 30 #[v, .slice (some ⟨g, 0, none⟩) 1 1]).run Try.prog w = .ok v' w' ∧ w'.ownsRow base 25 1 v' (n + 1) (xs ++ [x]) ∧ w.grownBy w' v.ownBlock := by
  obtain ⟨i0, hi0, hz0, hz1, hz2⟩ := info_parts info41
  have hnews : ∀ j u, [x][j]? = some u → w.cell? ((⟨g, 0, none⟩ : Addr).add j) = some u := by
    intro j u hj
    cases j with
    | zero => simp at hj; subst hj; exact hk
    | succ k => simp at hj
  obtain ⟨v', w', h1, h2, h3, _, h5⟩ := run_append_own_at (P := Try.prog) w base 30 30 25 i0 (.slice none 0 0) 1 24 Try.underlying30 hi0 hz0 hz1 hz2 rfl (by decide) v n xs o ⟨g, 0, none⟩ 1 1 [x] rfl hnews (by simp [hx]) (by unfold maxLen; omega) (by omega) hb
  exact ⟨v', w', h1, h2, h3⟩
set_option maxRecDepth 100000 in
/-- One slice more. -/
theorem SB.push {T : Nat} {W w : World} {fv : Value} {F : List (List Int)} {rv : Nat → Value} {L : List Int} {a : Option Addr} {b c : Nat} (h : SB T W w fv F rv) (hW : Below W.heap.size W w) (hx : PSl T W (.slice a b c) L) (hl : F.length ≤ 1000000) :
    ∃ p1 c1 D, (Builtin.append_ #[30, 30] 30 #[fv, .slice (some ⟨w.heap.size, 0, none⟩) 1 1]).run Try.prog (w.alloc (.cells #[.slice a b c] 25)) = .ok (.slice p1 (F.length + 1) c1) D ∧ SB T W D (.slice p1 (F.length + 1) c1) (F ++ [L]) (upd rv F.length (.slice a b c)) ∧ Below W.heap.size W D := by
  have hb1 : Below w.heap.size w (w.alloc (.cells #[.slice a b c] 25)) := by go_grown
  have h1 := h.later hb1
  have hB1 : W.heap.size ≤ (w.alloc (.cells #[.slice a b c] 25)).heap.size := Nat.le_trans hW.size hb1.size
  obtain ⟨v1, D, e1, o1, gr⟩ := append_lst3 (g := w.heap.size) (x := .slice a b c) h1.lst (by go_cell) rfl hB1 (by omega)
  obtain ⟨p1, c1, hv1, _, _⟩ := World.ownsRow.form o1 (by omega)
  subst hv1
  have hlen : (F ++ [L]).length = F.length + 1 := by simp
  refine ⟨some ⟨p1, 0, none⟩, c1, D, e1, ⟨?_, ?_⟩, hW.trans (below_grown (hb1.mono hW.size) h1.lst (Nat.le_refl _) hB1 gr)⟩
  · rw [hlen, show ((List.range (F.length + 1)).map (upd rv F.length (.slice a b c))) = (List.range F.length).map rv ++ [.slice a b c] from ?_]
    · exact o1
    rw [List.range_succ, List.map_append, List.map_cons, List.map_nil, upd_same]
    congr 1
    apply List.map_congr_left
    intro i hi
    have := List.mem_range.1 hi
    exact upd_other _ _ (by omega)
  · rw [hlen]
    intro v hv
    rw [lat_snoc]
    by_cases hv' : v = F.length
    · rw [hv', upd_same, if_neg (by omega), if_pos rfl]
      exact hx
    · rw [upd_other _ _ hv', if_pos (by omega)]
      exact h.row v (by omega)
/-- The list can be read. -/
theorem SB.has {T : Nat} {W w : World} {p : Option Addr} {c : Nat} {F : List (List Int)} {rv : Nat → Value} (h : SB T W w (.slice p F.length c) F rv) (hW : Below W.heap.size W w) (hT : T ≤ W.heap.size) : RHasB T w p F := by
  by_cases hF : F = []
  · exact Or.inl hF
  have hpos : 0 < F.length := List.length_pos_iff.2 hF
  obtain ⟨g, rfl⟩ : ∃ g, p = some ⟨g, 0, none⟩ := by
    obtain ⟨_, ⟨h1, _⟩ | ⟨g1, c1, cur1, h1, _⟩⟩ := h.lst
    · injection h1 with _ e2 _; omega
    · injection h1 with e1 _ _; exact ⟨g1, e1⟩
  refine Or.inr ⟨g, 0, rfl, Nat.le_trans hT (World.ownsRow.lt h.lst g rfl).1, fun v hv => ?_⟩
  obtain ⟨a, c', e1, e2, e3, e4, e5⟩ := h.row v hv
  refine ⟨a, c', ?_, e2.later hW, e3, e4, e5⟩
  rw [Nat.zero_add, World.ownsRow.cellAt h.lst v (by omega), ← e1]
  simp [hv]
end Go.Proofs.Ytaebbfilgfkckaa

namespace Go.Proofs.Ytaebbfilgfkckaa
open Go.RowKit Go.Sort
open Go
/-- The places where a row is empty, and the others. -/
def ixO (f : Nat → List Int) : Nat → List Int
  | 0 => []
  | k + 1 => if f k = [] then ixO f k ++ [(k : Int)] else ixO f k
def ixT (f : Nat → List Int) : Nat → List Int
  | 0 => []
  | k + 1 => if f k = [] then ixT f k else ixT f k ++ [(k : Int)]
theorem ix_len (f : Nat → List Int) : ∀ k, (ixO f k).length + (ixT f k).length = k
  | 0 => rfl
  | k + 1 => by
    have := ix_len f k
    unfold ixO ixT
    split <;> simp <;> omega
theorem ixO_mem (f : Nat → List Int) : ∀ k x, x ∈ ixO f k → ∃ j : Nat, x = j ∧ j < k
  | 0, _, h => by cases h
  | k + 1, x, h => by
    unfold ixO at h
    split at h
    · rcases List.mem_append.1 h with h | h
      · obtain ⟨j, e, hj⟩ := ixO_mem f k x h; exact ⟨j, e, by omega⟩
      · exact ⟨k, by simpa using h, by omega⟩
    · obtain ⟨j, e, hj⟩ := ixO_mem f k x h; exact ⟨j, e, by omega⟩
theorem ixT_mem (f : Nat → List Int) : ∀ k x, x ∈ ixT f k → ∃ j : Nat, x = j ∧ j < k
  | 0, _, h => by cases h
  | k + 1, x, h => by
    unfold ixT at h
    split at h
    · obtain ⟨j, e, hj⟩ := ixT_mem f k x h; exact ⟨j, e, by omega⟩
    · rcases List.mem_append.1 h with h | h
      · obtain ⟨j, e, hj⟩ := ixT_mem f k x h; exact ⟨j, e, by omega⟩
      · exact ⟨k, by simpa using h, by omega⟩
def oN (f : Nat → List Int) (i : Nat) : Nat := (iat (ixO f 6) i).toNat
def sN (f : Nat → List Int) (i : Nat) : Nat := (iat (ixT f 6) i).toNat
theorem oN_is {f : Nat → List Int} {i : Nat} (h : i < (ixO f 6).length) : iat (ixO f 6) i = (oN f i : Nat) ∧ oN f i < 6 := by
  obtain ⟨j, e, hj⟩ := ixO_mem f 6 _ (iat_mem h)
  unfold oN
  rw [e]
  exact ⟨by omega, by omega⟩
theorem sN_is {f : Nat → List Int} {i : Nat} (h : i < (ixT f 6).length) : iat (ixT f 6) i = (sN f i : Nat) ∧ sN f i < 6 := by
  obtain ⟨j, e, hj⟩ := ixT_mem f 6 _ (iat_mem h)
  unfold sN
  rw [e]
  exact ⟨by omega, by omega⟩
/-- The first m paths between the sides. -/
def pfF (X : Nat → Nat → List Int) (m : Nat) : List (List Int) := (List.range m).map fun t => X (oN (X 0) (t / 3)) (sN (X 0) (t % 3))
theorem pfF_length (X : Nat → Nat → List Int) (m : Nat) : (pfF X m).length = m := by simp [pfF]
theorem pfF_succ (X : Nat → Nat → List Int) {i k : Nat} (hk : k < 3) : pfF X (3 * i + (k + 1)) = pfF X (3 * i + k) ++ [X (oN (X 0) i) (sN (X 0) k)] := by
  unfold pfF
  rw [show 3 * i + (k + 1) = (3 * i + k) + 1 by omega, List.range_succ, List.map_append, List.map_cons, List.map_nil, show (3 * i + k) / 3 = i by omega, show (3 * i + k) % 3 = k by omega]
/-- The first m nodes of both sides. -/
def ndL (X : Nat → Nat → List Int) (br : List Int) (m : Nat) : List Int := (List.range m).map fun t => iat br (if t < 3 then oN (X 0) t else sN (X 0) (t - 3))
theorem ndL_length (X : Nat → Nat → List Int) (br : List Int) (m : Nat) : (ndL X br m).length = m := by simp [ndL]
theorem ndL_one (X : Nat → Nat → List Int) (br : List Int) {i : Nat} (hi : i < 3) : ndL X br (i + 1) = ndL X br i ++ [iat br (oN (X 0) i)] := by
  unfold ndL
  rw [List.range_succ, List.map_append, List.map_cons, List.map_nil, if_pos hi]
theorem ndL_two (X : Nat → Nat → List Int) (br : List Int) (i : Nat) : ndL X br (3 + (i + 1)) = ndL X br (3 + i) ++ [iat br (sN (X 0) i)] := by
  unfold ndL
  rw [show 3 + (i + 1) = (3 + i) + 1 by omega, List.range_succ, List.map_append, List.map_cons, List.map_nil, if_neg (by omega), show 3 + i - 3 = i by omega]
theorem iowns_has {w : World} {B n c : Nat} {p : Option Addr} {l : List Int} (h : IOwns w B (.slice p n c) l) : IHas w p l := by
  obtain ⟨p', c', e, m, _⟩ := h.form
  injection e with e1 _ _
  rw [e1]
  exact m
/-- What sides answers. -/
def SdPost (B : Nat) (br : List Int) (X : Nat → Nat → List Int) (e : Ending) (w' : World) : Prop :=
  ((∃ i k, i < 3 ∧ k < 3 ∧ X (oN (X 0) i) (sN (X 0) k) = []) ∧ e = .returned (.tuple #[.int .i64 0, .slice none 0 0, .slice none 0 0])) ∨
  ((∀ i k, i < 3 → k < 3 → X (oN (X 0) i) (sN (X 0) k) ≠ []) ∧ ∃ p c q cq, e = .returned (.tuple #[.int .i64 33, .slice p 6 c, .slice q 9 cq]) ∧ IHasB B w' p (ndL X br 6) ∧ RHasB B w' q (pfF X 9))
set_option maxRecDepth 100000 in
set_option maxHeartbeats 32000000 in
theorem sides37 (pb : Option Addr) (cb gw B : Nat) (br : List Int) (gs : Nat → Nat) (X : Nat → Nat → List Int) (w : World) (hb : IHas w pb br) (hbl : br.length = 6) (hW : Wy w B gw 6 6 gs X) (h0 : X 0 0 = []) (h3 : (ixO (X 0) 6).length = 3) : Calls Try.prog 37 #[.slice pb 6 cb, .slice (some ⟨gw, 0, none⟩) 6 6] w fun e w' => SdPost B br X e w' ∧ Below w.heap.size w w' := by
  have HBR := hide hb
  have HW := hide hW
  have HWL : Hid (B ≤ w.heap.size) := by have := hW.lt; show _ ≤ _; omega
  have H0 := hide h0
  have H3 := hide h3
  have HBL := hide hbl
  have O0 : Hid (Two w w.heap.size (.slice none 0 0) (.slice none 0 0) (ixO (X 0) 0) (ixT (X 0) 0)) := ⟨IOwns.nil _ _, IOwns.nil _ _, fun j h => by simp [Value.ownBlock] at h⟩
  have HLN := hide (ix_len (X 0))
  clear hb hW h0 h3 hbl
  have eqn := fun V => eql25n V
  have eqs := fun V a l c => eql25s V a l c
  go_enter Try.func37, Try.ntmps37
  go_wp2_with fail
  go_loopw [7, 8, 9] (fun t7 t8 t9 wr => ∃ (k : Nat) (p3 : Option Addr) (c3 : Nat) (p4 : Option Addr) (c4 : Nat), k ≤ 6 ∧ t9 = .int .i64 k ∧ t7 = .slice p3 (ixO (X 0) k).length c3 ∧ t8 = .slice p4 (ixT (X 0) k).length c4 ∧ Hid (Below w.heap.size w wr) ∧ Hid (Two wr w.heap.size (.slice p3 (ixO (X 0) k).length c3) (.slice p4 (ixT (X 0) k).length c4) (ixO (X 0) k) (ixT (X 0) k))) (fun _ _ t9 _ => 6 - (intOf t9).toNat)
  case atStart => exact ⟨0, none, 0, none, 0, by omega, rfl, rfl, rfl, Below.refl _ _, O0.out⟩
  case round =>
    obtain ⟨k, p3, c3, p4, c4, hk, rfl, rfl, rfl, HBr, HTr⟩ := hrel
    clear O0
    have hsz : w.heap.size ≤ wr.heap.size := HBr.out.size
    have hln := HLN.out k
    by_cases hlt : k < 6
    · have j1 : (k : Int) < 6 := by omega
      have hWr := HW.out.later HBr.out
      have c0 := (hWr.cell (j := 0) (by omega)).1
      rw [if_pos (by omega)] at c0
      have lk := (hWr.row 0 (by omega)).look (x := k) hlt
      have HO : Hid (ixO (X 0) (k + 1) = if X 0 k = [] then ixO (X 0) k ++ [(k : Int)] else ixO (X 0) k) := rfl
      have HT : Hid (ixT (X 0) (k + 1) = if X 0 k = [] then ixT (X 0) k else ixT (X 0) k ++ [(k : Int)]) := rfl
      clear hWr
      rcases lk with ⟨he, c1⟩ | ⟨hne, ad, c, c1, _⟩
      · rw [if_pos he] at HO HT
        obtain ⟨p8, c8, E, ea, tw, hbE⟩ := HTr.out.push (k : Int) hsz (by omega)
        have HBE := hide (HBr.out.trans hbE)
        rw [← HO.out] at ea tw
        rw [← HT.out] at tw
        have HTE := hide tw
        clear tw hbE he
        by_cases hk0 : k = 0
        · subst hk0
          go_wp2_with (at_builtin; refine wpList_run_append rfl (.tmp 31) (.tmp 33) 25 rfl 25 rfl _ _ _ E rfl rfl ea ?_)
          go_roundw
          case rel => exact ⟨0 + 1, p8, c8, p4, c4, by omega, by go_num, rfl, by rw [HT.out], HBE.out, HTE.out⟩
          case measure => simp [intOf]
        · have k0 : ((k : Int) == 0) = false := by rw [beq_eq_false_iff_ne]; omega
          go_wp2_with (at_builtin; refine wpList_run_append rfl (.tmp 31) (.tmp 33) 25 rfl 25 rfl _ _ _ E rfl rfl ea ?_)
          go_roundw
          case rel => exact ⟨k + 1, p8, c8, p4, c4, by omega, by go_num, rfl, by rw [HT.out], HBE.out, HTE.out⟩
          case measure => simp [intOf]; omega
      · have hk0 : k ≠ 0 := fun e => hne (by rw [e]; exact H0.out)
        have k0 : ((k : Int) == 0) = false := by rw [beq_eq_false_iff_ne]; omega
        rw [if_neg hne] at HO HT
        obtain ⟨p8, c8, E, ea, tw, hbE⟩ := HTr.out.swap.push (k : Int) hsz (by omega)
        have tw := tw.swap
        have HBE := hide (HBr.out.trans hbE)
        rw [← HT.out] at ea tw
        rw [← HO.out] at tw
        have HTE := hide tw
        obtain ⟨ml, hml⟩ : ∃ m, (X 0 k).length = m := ⟨_, rfl⟩
        rw [hml] at c1
        clear tw hbE hne hml
        go_wp2_with (at_builtin; refine wpList_run_append rfl (.tmp 35) (.tmp 37) 25 rfl 25 rfl _ _ _ E rfl rfl ea ?_)
        go_roundw
        case rel => exact ⟨k + 1, p3, c3, p8, c8, by omega, by go_num, by rw [HO.out], rfl, HBE.out, HTE.out⟩
        case measure => simp [intOf]; omega
    · have hk6 : k = 6 := by omega
      subst hk6
      try rw [show ((6 : Nat) : Int) = 6 from rfl]
      obtain ⟨W1, hW1⟩ : ∃ V, wr = V := ⟨_, rfl⟩
      rw [hW1] at HBr HTr ⊢
      have hl3 := H3.out
      have hl4 : (ixT (X 0) 6).length = 3 := by omega
      have HB1 := hide HBr.out
      have i7 := iowns_has HTr.out.fst
      have i8 := iowns_has HTr.out.snd
      obtain ⟨b7, o7, rfl, hL7⟩ : ∃ b1 off, p3 = some ⟨b1, off, none⟩ ∧ ILies W1 b1 off (ixO (X 0) 6) := by
        rcases i7 with e | e
        · rw [e] at hl3; simp at hl3
        · exact e
      obtain ⟨b8, o8, rfl, hL8⟩ : ∃ b1 off, p4 = some ⟨b1, off, none⟩ ∧ ILies W1 b1 off (ixT (X 0) 6) := by
        rcases i8 with e | e
        · rw [e] at hl4; simp at hl4
        · exact e
      have HO : Hid (∀ V, Below W1.heap.size W1 V → ∀ i, i < 3 → V.cell? ⟨b7, o7 + i, none⟩ = some (.int .i64 (oN (X 0) i : Nat)) ∧ oN (X 0) i < 6) := fun V hV i hi => by
        obtain ⟨e1, e2⟩ := oN_is (f := X 0) (i := i) (by omega)
        have := later hV (hL7 i (by omega))
        rw [e1] at this
        exact ⟨this, e2⟩
      have HT : Hid (∀ V, Below W1.heap.size W1 V → ∀ i, i < 3 → V.cell? ⟨b8, o8 + i, none⟩ = some (.int .i64 (sN (X 0) i : Nat)) ∧ sN (X 0) i < 6) := fun V hV i hi => by
        obtain ⟨e1, e2⟩ := sN_is (f := X 0) (i := i) (by omega)
        have := later hV (hL8 i (by omega))
        rw [e1] at this
        exact ⟨this, e2⟩
      have HWC : Hid (∀ i k, i < 6 → k < 6 → (∀ V, Below W1.heap.size W1 V → V.cell? ⟨gw, i, none⟩ = some (.slice (some ⟨gs i, 0, none⟩) 6 6)) ∧ ((X i k = [] ∧ ∀ V, Below W1.heap.size W1 V → V.cell? ⟨gs i, k, none⟩ = some (.slice none 0 0)) ∨ (X i k ≠ [] ∧ ∃ ad c, (∀ V, Below W1.heap.size W1 V → V.cell? ⟨gs i, k, none⟩ = some (.slice (some ad) (X i k).length c)) ∧ PSl B W1 (.slice (some ad) (X i k).length c) (X i k)))) := fun i k hi hk => by
        have hWr := HW.out.later HB1.out
        have c0 := (hWr.cell (j := i) hi).1
        rw [if_pos hi] at c0
        refine ⟨fun V hV => later hV c0, ?_⟩
        rcases (hWr.row i hi).look (x := k) hk with ⟨he, c1⟩ | ⟨hne, ad, c, c1, c2, c3, c4, c5⟩
        · exact Or.inl ⟨he, fun V hV => later hV c1⟩
        · exact Or.inr ⟨hne, ad, c, fun V hV => later hV c1, _, _, rfl, ⟨c2, fun _ a e => by injection e with e; rw [← e]; exact c5⟩, c3, c4, fun e => by cases e⟩
      have HBN : Hid (∃ bb ob, pb = some ⟨bb, ob, none⟩ ∧ ∀ V, Below W1.heap.size W1 V → ∀ i, i < 6 → V.cell? ⟨bb, ob + i, none⟩ = some (.int .i64 (iat br i))) := by
        obtain ⟨bb, ob, e, hL⟩ : ∃ b1 off, pb = some ⟨b1, off, none⟩ ∧ ILies w b1 off br := by
          rcases HBR.out with e | e
          · have := HBL.out; rw [e] at this; cases this
          · exact e
        exact ⟨bb, ob, e, fun V hV i hi => later (below_step HB1.out hV) (hL i (by rw [HBL.out]; exact hi))⟩
      have S0 := hide (SB.nil B W1)
      rw [hl3, hl4]
      clear HBr HTr hW1 hsz hl3 hl4 i7 i8 hL7 hL8 hk hlt hln HW
      go_wp2_with fail
      go_loopw [10, 11, 12] (fun t10 t11 _ wr => ∃ (i : Nat) (p : Option Addr) (c : Nat) (rv : Nat → Value), i ≤ 3 ∧ t11 = .int .i64 i ∧ t10 = .slice p (3 * i) c ∧ Hid (Below W1.heap.size W1 wr) ∧ Hid (SB B W1 wr (.slice p (3 * i) c) (pfF X (3 * i)) rv) ∧ Hid (∀ a b, a < i → b < 3 → X (oN (X 0) a) (sN (X 0) b) ≠ [])) (fun _ t11 _ _ => 3 - (intOf t11).toNat)
      case atStart => exact ⟨0, none, 0, _, by omega, rfl, rfl, Below.refl _ _, S0.out, fun a b ha => by omega⟩
      case round =>
        obtain ⟨i, p, c, rv, hi, rfl, rfl, HBr, HSr, HAr⟩ := hrel
        clear S0
        by_cases hi3 : i < 3
        · have j1 : (i : Int) < 3 := by omega
          go_wp2_with fail
          go_loopw [10, 12] (fun t10 t12 wq => ∃ (k : Nat) (p : Option Addr) (c : Nat) (rv : Nat → Value), k ≤ 3 ∧ t12 = .int .i64 k ∧ t10 = .slice p (3 * i + k) c ∧ Hid (Below W1.heap.size W1 wq) ∧ Hid (SB B W1 wq (.slice p (3 * i + k) c) (pfF X (3 * i + k)) rv) ∧ Hid (∀ b, b < k → X (oN (X 0) i) (sN (X 0) b) ≠ [])) (fun _ t12 _ => 3 - (intOf t12).toNat)
          case atStart => exact ⟨0, p, c, rv, by omega, rfl, rfl, HBr.out, HSr.out, fun b hb => by omega⟩
          case round =>
            obtain ⟨k, p, c, rv, hk, rfl, rfl, HBk, HSk, HAk⟩ := hrel
            clear HSr
            by_cases hk3 : k < 3
            · have j2 : (k : Int) < 3 := by omega
              obtain ⟨u0, ho6⟩ := HO.out _ HBk.out i hi3
              obtain ⟨v0, hs6⟩ := HT.out _ HBk.out k hk3
              obtain ⟨hc0, lk⟩ := HWC.out _ _ ho6 hs6
              have c0 := hc0 _ HBk.out
              have HPF := hide (pfF_succ X (i := i) hk3)
              have HAK : Hid (X (oN (X 0) i) (sN (X 0) k) ≠ [] → ∀ b, b < k + 1 → X (oN (X 0) i) (sN (X 0) b) ≠ []) := fun h b hb => by
                by_cases e : b = k
                · rw [e]; exact h
                · exact HAk.out b (by omega)
              have k1 : ((oN (X 0) i : Nat) : Int) < 6 := by omega
              have k2 : ((sN (X 0) k : Nat) : Int) < 6 := by omega
              rcases lk with ⟨he, hc1⟩ | ⟨hne, ad, cc, hc1, hps⟩
              · have c1 := hc1 _ HBk.out
                have HZ : Hid (SdPost B br X (.returned (.tuple #[.int .i64 0, .slice none 0 0, .slice none 0 0])) wr) := Or.inl ⟨⟨i, k, hi3, hk3, he⟩, rfl⟩
                clear HPF HAK he hc0 hc1
                obtain ⟨on, hon⟩ : ∃ x, oN (X 0) i = x := ⟨_, rfl⟩
                obtain ⟨sn, hsn⟩ : ∃ x, sN (X 0) k = x := ⟨_, rfl⟩
                rw [hon] at u0 c0 c1 k1
                rw [hsn] at v0 c1 k2
                clear hon hsn ho6 hs6
                go_upto_region 17 with fail
                go_region
                have HE := hide (below_step HB1.out (below_step HBk.out (below_drew _)))
                go_wp2
                go_ret3
                exact ⟨HZ.out, HE.out⟩
              · have c1 := hc1 _ HBk.out
                have HAN := hide (HAK.out hne)
                have HS : Hid (∀ V, Below W1.heap.size W1 V → V.cell? ⟨b7, o7 + i, none⟩ = some (.int .i64 (oN (X 0) i : Nat)) ∧ V.cell? ⟨b8, o8 + k, none⟩ = some (.int .i64 (sN (X 0) k : Nat)) ∧ V.cell? ⟨gw, oN (X 0) i, none⟩ = some (.slice (some ⟨gs (oN (X 0) i), 0, none⟩) 6 6) ∧ V.cell? ⟨gs (oN (X 0) i), sN (X 0) k, none⟩ = some (.slice (some ad) (X (oN (X 0) i) (sN (X 0) k)).length cc)) := fun V hV => ⟨(HO.out _ hV i hi3).1, (HT.out _ hV k hk3).1, hc0 V hV, hc1 V hV⟩
                obtain ⟨V0, hV0⟩ : ∃ V, V = wr.drew.drew := ⟨_, rfl⟩
                have hb0 : Below wr.heap.size wr V0 := by rw [hV0]; exact below_step (below_drew _) (below_drew _)
                have HX0 := hide (below_step HBk.out hb0)
                obtain ⟨p8, c8, V2, ea, sb, hbE⟩ := (HSk.out.later hb0).push HX0.out hps (by rw [pfF_length]; omega)
                rw [← HPF.out] at sb
                rw [pfF_length] at ea sb
                have HX2 := hide hbE
                have HY2 := hide sb
                obtain ⟨ml, hml⟩ : ∃ m, (X (oN (X 0) i) (sN (X 0) k)).length = m := ⟨_, rfl⟩
                rw [hml] at c1 ea HS
                obtain ⟨on, hon⟩ : ∃ x, oN (X 0) i = x := ⟨_, rfl⟩
                obtain ⟨sn, hsn⟩ : ∃ x, sN (X 0) k = x := ⟨_, rfl⟩
                rw [hon] at u0 c0 c1 k1 HS
                rw [hsn] at v0 c1 k2 HS
                clear hml hon hsn ho6 hs6 hc0 hc1 HPF HAK hne hps sb hbE hb0
                go_upto_region 17 with fail
                go_region
                go_wp2_with fail
                go_upto_region 19 with fail
                refine wp_region_held_drew (S := (fun V => V.cell? ⟨b7, o7 + i, none⟩ = some (.int .i64 on) ∧ V.cell? ⟨b8, o8 + k, none⟩ = some (.int .i64 sn) ∧ V.cell? ⟨gw, on, none⟩ = some (.slice (some ⟨gs on, 0, none⟩) 6 6) ∧ V.cell? ⟨gs on, sn, none⟩ = some (.slice (some ad) ml cc))) (by kernel_rfl) (by rw [← hV0]; exact HS.out _ HX0.out) (fun hHeld => ?_)
                rw [← hV0] at hHeld ⊢
                clear hV0 u0 v0 c0 c1
                obtain ⟨u0, v0, c0, c1⟩ := HS.out _ HX0.out
                refine wpAnyH_take (i := 0) (v := ?v1) rfl (by kernel_rfl) (by kernel_rfl) (by kernel_rfl) (fun _ _ _ h => h) (Or.inl ⟨by rfl, ?hy1⟩) (by assumption) ?rest1
                case hy1 => (intro w hSw; (try dsimp only at hSw); go_simp; try with_reducible rfl)
                try simp only [Act.put, List.getElem_toArray, List.getElem_cons_zero, List.setIfInBounds_toArray, List.set_cons_zero, List.set_cons_succ]
                refine wpAnyH_take (i := 1) (v := ?v2) rfl (by kernel_rfl) (by kernel_rfl) (by kernel_rfl) (fun _ _ _ h => h) (Or.inl ⟨by rfl, ?hy2⟩) (by assumption) ?rest2
                case hy2 => (intro w hSw; (try dsimp only at hSw); go_simp; try with_reducible rfl)
                try simp only [Act.put, List.getElem_toArray, List.getElem_cons_zero, List.getElem_cons_succ, List.setIfInBounds_toArray, List.set_cons_zero, List.set_cons_succ]
                refine wpAnyH_take (i := 2) (v := ?v3) rfl (by kernel_rfl) (by kernel_rfl) (by kernel_rfl) (fun _ _ _ h => h) (Or.inl ⟨by rfl, ?hy3⟩) (by assumption) ?rest3
                case hy3 => (intro w hSw; (try dsimp only at hSw); go_simp; try with_reducible rfl)
                try simp only [Act.put, List.getElem_toArray, List.getElem_cons_zero, List.getElem_cons_succ, List.setIfInBounds_toArray, List.set_cons_zero, List.set_cons_succ]
                refine wpAnyH_take (i := 3) (v := ?v4) rfl (by kernel_rfl) (by kernel_rfl) (by kernel_rfl) (fun _ _ _ h => h) (Or.inl ⟨by rfl, ?hy4⟩) (by assumption) ?rest4
                case hy4 => (intro w hSw; (try dsimp only at hSw); go_simp; try with_reducible rfl)
                try simp only [Act.put, List.getElem_toArray, List.getElem_cons_zero, List.getElem_cons_succ, List.setIfInBounds_toArray, List.set_cons_zero, List.set_cons_succ]
                refine wpAnyH_take (i := 4) (v := ?v5) rfl (by kernel_rfl) (by kernel_rfl) (by kernel_rfl) (fun _ _ _ h => h) (Or.inl ⟨by rfl, ?hy5⟩) (by assumption) ?rest5
                case hy5 => (intro w hSw; (try dsimp only at hSw); go_simp; try with_reducible rfl)
                try simp only [Act.put, List.getElem_toArray, List.getElem_cons_zero, List.getElem_cons_succ, List.setIfInBounds_toArray, List.set_cons_zero, List.set_cons_succ]
                refine wpAnyH_take (i := 5) (v := ?v6) rfl (by kernel_rfl) (by kernel_rfl) (by kernel_rfl) (fun _ _ _ h => h) (Or.inl ⟨by rfl, ?hy6⟩) (by assumption) ?rest6
                case hy6 => (intro w hSw; (try dsimp only at hSw); go_simp; try with_reducible rfl)
                try simp only [Act.put, List.getElem_toArray, List.getElem_cons_zero, List.getElem_cons_succ, List.setIfInBounds_toArray, List.set_cons_zero, List.set_cons_succ]
                refine wpAnyH_take (i := 6) (v := ?v7) rfl (by kernel_rfl) (by kernel_rfl) (by kernel_rfl) (fun _ _ _ h => h) (Or.inl ⟨by rfl, ?hy7⟩) (by assumption) ?rest7
                case hy7 => (intro w hSw; (try dsimp only at hSw); go_simp; try with_reducible rfl)
                try simp only [Act.put, List.getElem_toArray, List.getElem_cons_zero, List.getElem_cons_succ, List.setIfInBounds_toArray, List.set_cons_zero, List.set_cons_succ]
                refine wpAnyH_take (i := 7) (v := ?v8) rfl (by kernel_rfl) (by kernel_rfl) (by kernel_rfl) (fun _ _ _ h => h) (Or.inl ⟨by rfl, ?hy8⟩) (by assumption) ?rest8
                case hy8 => (intro w hSw; (try dsimp only at hSw); go_simp; try with_reducible rfl)
                try simp only [Act.put, List.getElem_toArray, List.getElem_cons_zero, List.getElem_cons_succ, List.setIfInBounds_toArray, List.set_cons_zero, List.set_cons_succ]
                refine wpAnyH_take (i := 8) (v := ?v9) rfl (by kernel_rfl) (by kernel_rfl) (by kernel_rfl) (fun _ _ _ h => h) (Or.inl ⟨by rfl, ?hy9⟩) (by assumption) ?rest9
                case hy9 => (intro w hSw; (try dsimp only at hSw); go_simp; try with_reducible rfl)
                try simp only [Act.put, List.getElem_toArray, List.getElem_cons_zero, List.getElem_cons_succ, List.setIfInBounds_toArray, List.set_cons_zero, List.set_cons_succ]
                refine wpAnyH_take (i := 9) (v := ?v10) rfl (by kernel_rfl) (by kernel_rfl) (by kernel_rfl) (fun _ _ _ h => h) (Or.inl ⟨by rfl, ?hy10⟩) (by assumption) ?rest10
                case hy10 => (intro w hSw; (try dsimp only at hSw); go_simp; try with_reducible rfl)
                try simp only [Act.put, List.getElem_toArray, List.getElem_cons_zero, List.getElem_cons_succ, List.setIfInBounds_toArray, List.set_cons_zero, List.set_cons_succ]
                refine wpAnyH_take (i := 10) (v := ?v11) rfl (by kernel_rfl) (by kernel_rfl) (by kernel_rfl) (fun _ _ _ h => h) (Or.inl ⟨by rfl, ?hy11⟩) (by assumption) ?rest11
                case hy11 => (intro w hSw; (try dsimp only at hSw); go_simp; try with_reducible rfl)
                try simp only [Act.put, List.getElem_toArray, List.getElem_cons_zero, List.getElem_cons_succ, List.setIfInBounds_toArray, List.set_cons_zero, List.set_cons_succ]
                refine wpAnyH_take (i := 11) (v := ?v12) rfl (by kernel_rfl) (by kernel_rfl) (by kernel_rfl) (fun _ _ _ h => h) (Or.inl ⟨by rfl, ?hy12⟩) (by assumption) ?rest12
                case hy12 => (intro w hSw; (try dsimp only at hSw); go_simp; try with_reducible rfl)
                try simp only [Act.put, List.getElem_toArray, List.getElem_cons_zero, List.getElem_cons_succ, List.setIfInBounds_toArray, List.set_cons_zero, List.set_cons_succ]
                refine wpAnyH_take (i := 12) (v := ?v13) rfl (by kernel_rfl) (by kernel_rfl) (by kernel_rfl) (fun _ _ _ h => h) (Or.inl ⟨by rfl, ?hy13⟩) (by assumption) ?rest13
                case hy13 => (intro w hSw; (try dsimp only at hSw); go_simp; try with_reducible rfl)
                try simp only [Act.put, List.getElem_toArray, List.getElem_cons_zero, List.getElem_cons_succ, List.setIfInBounds_toArray, List.set_cons_zero, List.set_cons_succ]
                refine wpAnyH_take (i := 13) (v := ?v14) rfl (by kernel_rfl) (by kernel_rfl) (by kernel_rfl) (fun _ _ _ h => h) (Or.inl ⟨by rfl, ?hy14⟩) (by assumption) ?rest14
                case hy14 => (intro w hSw; (try dsimp only at hSw); go_simp; try with_reducible rfl)
                try simp only [Act.put, List.getElem_toArray, List.getElem_cons_zero, List.getElem_cons_succ, List.setIfInBounds_toArray, List.set_cons_zero, List.set_cons_succ]
                refine wpAnyH_ready (rs := [14]) (by kernel_rfl) (by simp) ?_
                refine AllReadyH.cons rfl (fun K hK => ?_) ?_
                · clear hHeld
                  go_simp
                  obtain ⟨V1, hV⟩ : ∃ V, V = V0.alloc (.cells #[.slice (some ad) ml cc] 25) := ⟨_, rfl⟩
                  have hb2 : Below V0.heap.size V0 V1 := by rw [hV]; go_grown
                  have HX1 := hide (below_step HX0.out hb2)
                  rw [← hV] at ea
                  rw [← hV]
                  clear hV hb2 u0 v0 c0 c1
                  obtain ⟨u0, v0, c0, c1⟩ := HS.out _ HX1.out
                  refine hK.out _ _ (by first | exact HS.out _ HX1.out | exact HS.out _ HX2.out) (fun hHeld => ?_)
                  clear hK K
                  try simp only [Act.put, List.getElem_toArray, List.getElem_cons_zero, List.getElem_cons_succ, List.setIfInBounds_toArray, List.set_cons_zero, List.set_cons_succ]
                  refine wpAnyH_ready (rs := [15]) (by kernel_rfl) (by simp) ?_
                  refine AllReadyH.cons rfl (fun K hK => ?_) ?_
                  · clear hHeld
                    refine step_run_append (by rfl) (.tmp 64) (.tmp 78) 30 (by rfl) 30 (by rfl) (.slice p (3 * i + k) c) (.slice (some ⟨V0.heap.size, 0, none⟩) 1 1) (.slice p8 (3 * i + k + 1) c8) V2 (by rfl) (by rfl) ?_ ?_
                    with_reducible exact ea
                    clear ea u0 v0 c0 c1
                    obtain ⟨u0, v0, c0, c1⟩ := HS.out _ HX2.out
                    refine hK.out _ _ (by first | exact HS.out _ HX1.out | exact HS.out _ HX2.out) (fun hHeld => ?_)
                    clear hK K
                    try simp only [Act.put, List.getElem_toArray, List.getElem_cons_zero, List.getElem_cons_succ, List.setIfInBounds_toArray, List.set_cons_zero, List.set_cons_succ]
                    refine wpAnyH_take (i := 16) (v := ?v15) rfl (by kernel_rfl) (by kernel_rfl) (by kernel_rfl) (fun _ _ _ h => h) (Or.inl ⟨by rfl, ?hy15⟩) (by assumption) ?rest15
                    case hy15 => (intro w hSw; (try dsimp only at hSw); go_simp; try with_reducible rfl)
                    try simp only [Act.put, List.getElem_toArray, List.getElem_cons_zero, List.getElem_cons_succ, List.setIfInBounds_toArray, List.set_cons_zero, List.set_cons_succ]
                    refine wpAnyH_done (by kernel_rfl) ?_ _
                    clear hHeld
                    go_wp2
                    go_roundw
                    case rel => exact ⟨k + 1, p8, c8, _, by omega, by go_num, rfl, HX2.out, HY2.out, HAN.out⟩
                    case measure => simp [intOf]; omega
                  exact AllReadyH.nil
                exact AllReadyH.nil
            · have hk3e : k = 3 := by omega
              subst hk3e
              try rw [show ((3 : Nat) : Int) = 3 from rfl]
              have j2 : ¬ (3 : Int) < 3 := by omega
              have HAN : Hid (∀ a b, a < i + 1 → b < 3 → X (oN (X 0) a) (sN (X 0) b) ≠ []) := fun a b ha hb => by
                by_cases e : a = i
                · rw [e]; exact HAk.out b hb
                · exact HAr.out a b (by omega) hb
              go_wp2
              go_roundw
              case rel => exact ⟨i + 1, p, c, rv, by omega, by go_num, by rw [Nat.mul_add], HBk.out, by show SB _ _ _ _ _ _; rw [Nat.mul_add]; exact HSk.out, HAN.out⟩
              case measure => simp [intOf]; omega
        · have hi3e : i = 3 := by omega
          subst hi3e
          try rw [show ((3 : Nat) : Int) = 3 from rfl]
          obtain ⟨W2, hW2⟩ : ∃ V, wr = V := ⟨_, rfl⟩
          rw [hW2] at HBr HSr ⊢
          have HB2 := hide (below_step HB1.out HBr.out)
          have HF : Hid (RHasB B W2 p (pfF X 9)) := SB.has (c := c) (by have := HSr.out; exact this) HBr.out (by have h1 := HWL.out; have h2 := HB1.out.size; omega)
          have HO2 : Hid (∀ V, Below W2.heap.size W2 V → ∀ i, i < 3 → V.cell? ⟨b7, o7 + i, none⟩ = some (.int .i64 (oN (X 0) i : Nat)) ∧ oN (X 0) i < 6) := fun V hV => HO.out V (below_step HBr.out hV)
          have HT2 : Hid (∀ V, Below W2.heap.size W2 V → ∀ i, i < 3 → V.cell? ⟨b8, o8 + i, none⟩ = some (.int .i64 (sN (X 0) i : Nat)) ∧ sN (X 0) i < 6) := fun V hV => HT.out V (below_step HBr.out hV)
          obtain ⟨bb, ob, rfl, hbn⟩ := HBN.out
          have HN2 : Hid (∀ V, Below W2.heap.size W2 V → ∀ i, i < 6 → V.cell? ⟨bb, ob + i, none⟩ = some (.int .i64 (iat br i))) := fun V hV => hbn V (below_step HBr.out hV)
          have N0 : Hid (IOwns W2 W2.heap.size (.slice none 0 0) (ndL X br 0)) := IOwns.nil _ _
          have j1 : ¬ (3 : Int) < 3 := by omega
          clear hW2 HBr HSr HO HT hbn HBN HWC
          go_wp2_with fail
          go_loopw [13, 14] (fun t13 t14 wr => ∃ (i : Nat) (p : Option Addr) (c : Nat), i ≤ 3 ∧ t14 = .int .i64 i ∧ t13 = .slice p i c ∧ Hid (Below W2.heap.size W2 wr) ∧ Hid (IOwns wr W2.heap.size (.slice p i c) (ndL X br i))) (fun _ t14 _ => 3 - (intOf t14).toNat)
          case atStart => exact ⟨0, none, 0, by omega, rfl, rfl, Below.refl _ _, N0.out⟩
          case round =>
            obtain ⟨i, pn, cn, hi, rfl, rfl, HBr, HNr⟩ := hrel
            clear N0
            by_cases hi3 : i < 3
            · have j3 : (i : Int) < 3 := by omega
              obtain ⟨u0, ho6⟩ := HO2.out _ HBr.out i hi3
              have v0 := HN2.out _ HBr.out _ ho6
              have k1 : ((oN (X 0) i : Nat) : Int) < 6 := by omega
              have HND := hide (ndL_one X br hi3)
              obtain ⟨y, hy⟩ : ∃ y, iat br (oN (X 0) i) = y := ⟨_, rfl⟩
              rw [hy] at v0 HND
              obtain ⟨on, hon⟩ : ∃ x, oN (X 0) i = x := ⟨_, rfl⟩
              rw [hon] at u0 v0 k1
              obtain ⟨v1, E, ea, o1, hbE⟩ := push_int HNr.out y HBr.out.size (by rw [ndL_length]; omega)
              rw [← HND.out] at o1
              obtain ⟨p8, c8, h8, _⟩ := o1.form
              have HBE := hide (HBr.out.trans hbE)
              rw [ndL_length] at h8
              subst h8
              have HOE := hide o1
              clear o1 hbE hy hon ho6
              go_wp2_with (at_builtin; refine wpList_run_append rfl (.tmp 84) (.tmp 92) 25 rfl 25 rfl _ _ _ E rfl rfl ea ?_)
              go_roundw
              case rel => exact ⟨i + 1, p8, c8, by omega, by go_num, rfl, HBE.out, HOE.out⟩
              case measure => simp [intOf]; omega
            · have hi3e : i = 3 := by omega
              subst hi3e
              try rw [show ((3 : Nat) : Int) = 3 from rfl]
              have j3 : ¬ (3 : Int) < 3 := by omega
              have N1 : Hid (IOwns wr W2.heap.size (.slice pn (3 + 0) cn) (ndL X br (3 + 0))) := HNr.out
              have HBq := hide HBr.out
              clear HNr HBr
              go_wp2_with fail
              go_loopw [13, 15] (fun t13 t15 wr => ∃ (i : Nat) (p : Option Addr) (c : Nat), i ≤ 3 ∧ t15 = .int .i64 i ∧ t13 = .slice p (3 + i) c ∧ Hid (Below W2.heap.size W2 wr) ∧ Hid (IOwns wr W2.heap.size (.slice p (3 + i) c) (ndL X br (3 + i)))) (fun _ t15 _ => 3 - (intOf t15).toNat)
              case atStart => exact ⟨0, pn, cn, by omega, rfl, rfl, HBq.out, N1.out⟩
              case round =>
                obtain ⟨i, pn, cn, hi, rfl, rfl, HBr, HNr⟩ := hrel
                clear N1
                by_cases hi3 : i < 3
                · have j4 : (i : Int) < 3 := by omega
                  obtain ⟨u0, ho6⟩ := HT2.out _ HBr.out i hi3
                  have v0 := HN2.out _ HBr.out _ ho6
                  have k1 : ((sN (X 0) i : Nat) : Int) < 6 := by omega
                  have HND := hide (ndL_two X br i)
                  obtain ⟨y, hy⟩ : ∃ y, iat br (sN (X 0) i) = y := ⟨_, rfl⟩
                  rw [hy] at v0 HND
                  obtain ⟨on, hon⟩ : ∃ x, sN (X 0) i = x := ⟨_, rfl⟩
                  rw [hon] at u0 v0 k1
                  obtain ⟨v1, E, ea, o1, hbE⟩ := push_int HNr.out y HBr.out.size (by rw [ndL_length]; omega)
                  rw [← HND.out] at o1
                  obtain ⟨p8, c8, h8, _⟩ := o1.form
                  have HBE := hide (HBr.out.trans hbE)
                  rw [ndL_length] at h8
                  subst h8
                  have HOE := hide o1
                  clear o1 hbE hy hon ho6
                  go_wp2_with (at_builtin; refine wpList_run_append rfl (.tmp 98) (.tmp 106) 25 rfl 25 rfl _ _ _ E rfl rfl ea ?_)
                  go_roundw
                  case rel => exact ⟨i + 1, p8, c8, by omega, by go_num, rfl, HBE.out, HOE.out⟩
                  case measure => simp [intOf]; omega
                · have hi3e : i = 3 := by omega
                  subst hi3e
                  try rw [show ((3 : Nat) : Int) = 3 from rfl]
                  have j4 : ¬ (3 : Int) < 3 := by omega
                  have HE := hide (below_step HB2.out HBr.out)
                  have HP9 := hide (HF.out.later HBr.out)
                  have HN9 : Hid (IHasB B wr pn (ndL X br 6)) := IHasB.of HNr.out (by have h1 := HWL.out; have h2 := HB2.out.size; omega)
                  go_wp2
                  go_ret3
                  exact ⟨Or.inr ⟨fun a b ha hb => HAr.out a b ha hb, _, _, _, _, rfl, HN9.out, HP9.out⟩, HE.out⟩
end Go.Proofs.Ytaebbfilgfkckaa

/- Pure: the document's rows of paths. -/
/- Pure: what the document asks of the paths, and what the program asks, are the same. -/
namespace Go.Proofs.Ytaebbfilgfkckaa
open Go.RowKit Go.Sort
open Go
section
variable {n : Nat} {pk : List Pt}
/-- All chosen paths are there. -/
def allS (n : Nat) (pk : List Pt) : Prop := ∀ i, i < (jsK (kdS n pk)).length → wyS n pk (keyP (bsS n pk) (jsK (kdS n pk)) i) ≠ []
theorem j5_has {x y : Nat} (hxy : x < y) (hy : y < 5) : ∃ i, i < 10 ∧ at' (j5 5 6) i = ⟨(x : Int), (y : Int)⟩ := by
  have h : (y = 1 ∧ x = 0) ∨ (y = 2 ∧ x = 0) ∨ (y = 2 ∧ x = 1) ∨ (y = 3 ∧ x = 0) ∨ (y = 3 ∧ x = 1) ∨ (y = 3 ∧ x = 2) ∨ (y = 4 ∧ x = 0) ∨ (y = 4 ∧ x = 1) ∨ (y = 4 ∧ x = 2) ∨ (y = 4 ∧ x = 3) := by omega
  rcases h with ⟨rfl, rfl⟩ | ⟨rfl, rfl⟩ | ⟨rfl, rfl⟩ | ⟨rfl, rfl⟩ | ⟨rfl, rfl⟩ | ⟨rfl, rfl⟩ | ⟨rfl, rfl⟩ | ⟨rfl, rfl⟩ | ⟨rfl, rfl⟩ | ⟨rfl, rfl⟩
  · exact ⟨0, by omega, rfl⟩
  · exact ⟨1, by omega, rfl⟩
  · exact ⟨4, by omega, rfl⟩
  · exact ⟨2, by omega, rfl⟩
  · exact ⟨5, by omega, rfl⟩
  · exact ⟨7, by omega, rfl⟩
  · exact ⟨3, by omega, rfl⟩
  · exact ⟨6, by omega, rfl⟩
  · exact ⟨8, by omega, rfl⟩
  · exact ⟨9, by omega, rfl⟩
theorem bs_five (hk : kdS n pk = 5) : bsS n pk = brS n pk := by unfold bsS; rw [if_neg (by rw [hk]; decide)]
theorem all5 (hk : kdS n pk = 5) : allS n pk ↔ ∀ x y, x < y → y < 5 → wyS n pk ⟨iat (brS n pk) x, iat (brS n pk) y⟩ ≠ [] := by
  unfold allS keyP
  rw [bs_five hk, hk, show jsK 5 = j5 5 6 from rfl, j5_length]
  constructor
  · intro h x y hxy hy
    obtain ⟨i, hi, e⟩ := j5_has hxy hy
    have := h i hi
    rw [e] at this
    simp only [Int.toNat_natCast] at this
    exact this
  · intro h i hi
    obtain ⟨x, y, e, hxy, hy⟩ := j5_at i hi
    rw [e]
    simp only [Int.toNat_natCast]
    exact h x y hxy hy
theorem all33 (hk : kdS n pk = 33) : allS n pk ↔ ∀ x y, x < 3 → y < 3 → wyS n pk ⟨iat (bsS n pk) x, iat (bsS n pk) (3 + y)⟩ ≠ [] := by
  unfold allS keyP
  rw [hk, show jsK 33 = j33 3 3 from rfl, j33_length]
  constructor
  · intro h x y hx hy
    have := h (3 * x + y) (by omega)
    rw [j33_at _ (by omega)] at this
    simp only [Int.toNat_natCast] at this
    rw [show (3 * x + y) / 3 = x by omega, show (3 * x + y) % 3 = y by omega] at this
    exact this
  · intro h i hi
    rw [j33_at i hi]
    simp only [Int.toNat_natCast]
    exact h _ _ (by omega) (by omega)
theorem br_nodup (n : Nat) (pk : List Pt) : (brS n pk).Nodup := rise_nodup (br_rise n pk)
theorem br_len5 (hk : kdS n pk = 5) : (brS n pk).length = 5 := by
  rcases bs_len (n := n) (pk := pk) (by omega) with ⟨_, h⟩ | ⟨h, _⟩
  · rw [bs_length] at h; exact h
  · omega
theorem br_len33 (hk : kdS n pk = 33) : (brS n pk).length = 6 ∧ (bsS n pk).length = 6 := by
  rcases bs_len (n := n) (pk := pk) (by omega) with ⟨h, _⟩ | ⟨_, h⟩
  · omega
  · exact ⟨by rw [bs_length] at h; exact h, h⟩
theorem iat_drop (l : List Int) (k j : Nat) : iat (l.drop k) j = iat l (k + j) := by
  unfold iat
  rw [List.getD_eq_getElem?_getD, List.getD_eq_getElem?_getD, List.getElem?_drop]
theorem iat_take (l : List Int) {k j : Nat} (h : j < k) : iat (l.take k) j = iat l j := by
  unfold iat
  rw [List.getD_eq_getElem?_getD, List.getD_eq_getElem?_getD, List.getElem?_take, if_pos h]
/-- Where the paths of each side come to, if all nine are there. -/
theorem side33 (hm : netB n pk = true) (hk : kdS n pk = 33) (h : allS n pk) {i v : Nat} (hi : i < 6) (hv : iat (bsS n pk) i = v) : (enL pk v).Perm (if i < 3 then (bsS n pk).drop 3 else (bsS n pk).take 3) := by
  have hk0 : kdS n pk ≠ 0 := by omega
  have hl := (br_len33 hk).2
  have hnd := bs_nodup n pk
  have hA := (all33 hk).1 h
  have hin : ∀ j, j < 6 → iat (bsS n pk) j ∈ brS n pk := fun j hj => (bs_perm n pk).mem_iff.1 (iat_mem (by omega))
  have hnat : ∀ j, j < 6 → ∃ u : Nat, iat (bsS n pk) j = u := fun j hj => by
    obtain ⟨u, e, _⟩ := br_mem hm (hin j hj)
    exact ⟨u, e⟩
  have hvb : (v : Int) ∈ brS n pk := by rw [← hv]; exact hin i hi
  have hen : (enL pk v).length = 3 := by
    rw [en_length, (br_deg hm hk0 hvb).2, if_neg (by omega)]
  by_cases hi3 : i < 3
  · rw [if_pos hi3]
    refine perm_of_sub _ _ (hnd.sublist (List.drop_sublist _ _)) (fun x hx => ?_) (by rw [hen, List.length_drop, hl]; omega)
    obtain ⟨j, hj, e⟩ := mem_iat hx
    rw [List.length_drop, hl] at hj
    rw [iat_drop] at e
    have := hA i j hi3 (by omega)
    rw [hv, e] at this
    exact (wy_ne hvb).1 this
  · rw [if_neg hi3]
    refine perm_of_sub _ _ (hnd.sublist (List.take_sublist _ _)) (fun x hx => ?_) (by rw [hen, List.length_take, hl]; omega)
    obtain ⟨j, hj, e⟩ := mem_iat hx
    rw [List.length_take, hl] at hj
    have hj3 : j < 3 := by omega
    rw [iat_take _ hj3] at e
    have := hA j (i - 3) hj3 (by omega)
    obtain ⟨u, hu⟩ := hnat j (by omega)
    rw [show 3 + (i - 3) = i by omega, hv, hu] at this
    have hub : (u : Int) ∈ brS n pk := by rw [← hu]; exact hin j (by omega)
    have h2 := en_sym hm hk0 hub ((wy_ne hub).1 this)
    rw [← e, hu]
    exact h2
/-- A subdivision's nodes have ends unlike each other. -/
theorem ok_rg (hm : netB n pk = true) (hk : kdS n pk ≠ 0) (h : allS n pk) : RG n pk := by
  intro v hv
  rcases bs_len hk with ⟨h5, _⟩ | ⟨h33, _⟩
  · have hA := (all5 h5).1 h
    have hnd := br_nodup n pk
    have hl := br_len5 h5
    have hen : (enL pk v).length = 4 := by rw [en_length, (br_deg hm hk hv).2, if_pos h5]
    have hp := perm_of_sub ((brS n pk).erase (v : Int)) (enL pk v) (hnd.erase _) (fun x hx => by
      obtain ⟨h1, h2⟩ := (List.Nodup.mem_erase_iff hnd).1 hx
      obtain ⟨i, hi, ei⟩ := mem_iat hv
      obtain ⟨j, hj, ej⟩ := mem_iat h2
      obtain ⟨u, hu, _⟩ := br_mem hm h2
      rcases Nat.lt_trichotomy i j with hij | hij | hij
      · have := hA i j hij (by omega)
        rw [ei, ej] at this
        exact (wy_ne hv).1 this
      · rw [hij] at ei; exact absurd (ej.symm.trans ei) h1
      · have := hA j i hij (by omega)
        rw [ei, ej, hu] at this
        rw [hu] at h2 ⊢
        exact en_sym hm hk h2 ((wy_ne h2).1 this)) (by rw [hen, List.length_erase_of_mem hv, hl]; omega)
    exact ⟨hp.nodup_iff.2 (hnd.erase _), fun hx => hnd.not_mem_erase (hp.mem_iff.1 hx)⟩
  · have hl := (br_len33 h33).2
    have hnd := bs_nodup n pk
    obtain ⟨i, hi, ei⟩ := mem_iat ((bs_perm n pk).mem_iff.2 hv)
    rw [hl] at hi
    have hp := side33 hm h33 h hi ei
    by_cases hi3 : i < 3
    · rw [if_pos hi3] at hp
      refine ⟨hp.nodup_iff.2 (hnd.sublist (List.drop_sublist _ _)), fun hx => ?_⟩
      obtain ⟨j, hj, e⟩ := mem_iat (hp.mem_iff.1 hx)
      rw [List.length_drop, hl] at hj
      rw [iat_drop, ← ei] at e
      have := iat_inj hnd (by omega) (by omega) e
      omega
    · rw [if_neg hi3] at hp
      refine ⟨hp.nodup_iff.2 (hnd.sublist (List.take_sublist _ _)), fun hx => ?_⟩
      obtain ⟨j, hj, e⟩ := mem_iat (hp.mem_iff.1 hx)
      rw [List.length_take, hl] at hj
      rw [iat_take _ (by omega), ← ei] at e
      have := iat_inj hnd (by omega) (by omega) e
      omega
/-- Five nodes: if each has ends unlike each other, all paths are there. -/
theorem rg_all5 (hm : netB n pk = true) (hk : kdS n pk = 5) (hg : RG n pk) : allS n pk := by
  have hk0 : kdS n pk ≠ 0 := by omega
  refine (all5 hk).2 fun x y hxy hy => ?_
  have hl := br_len5 hk
  have hnd := br_nodup n pk
  have hxm : iat (brS n pk) x ∈ brS n pk := iat_mem (by omega)
  obtain ⟨v, e, _⟩ := br_mem hm hxm
  rw [e] at hxm ⊢
  have hen : (enL pk v).length = 4 := by rw [en_length, (br_deg hm hk0 hxm).2, if_pos hk]
  have hp := perm_of_sub (enL pk v) ((brS n pk).erase (v : Int)) (hg v hxm).1 (fun z hz => (List.Nodup.mem_erase_iff hnd).2 ⟨fun e => (hg v hxm).2 (e ▸ hz), en_br hm hk0 hxm z hz⟩) (by rw [hen, List.length_erase_of_mem hxm, hl]; omega)
  refine (wy_ne hxm).2 (hp.mem_iff.1 ((List.Nodup.mem_erase_iff hnd).2 ⟨fun e2 => ?_, iat_mem (by omega)⟩))
  have := iat_inj hnd (i := x) (j := y) (by omega) (by omega) (by rw [e, e2])
  omega
theorem five_of {l : List Int} (h : l.length = 5) : ∃ a b c d e, l = [a, b, c, d, e] := by
  match l, h with
  | [a, b, c, d, e], _ => exact ⟨a, b, c, d, e, rfl⟩
theorem six_of {l : List Int} (h : l.length = 6) : ∃ a b c d e f, l = [a, b, c, d, e, f] := by
  match l, h with
  | [a, b, c, d, e, f], _ => exact ⟨a, b, c, d, e, f, rfl⟩
theorem sum5 (F : Int → Int → Nat) {a b c d e : Int} (h1 : a < b) (h2 : b < c) (h3 : c < d) (h4 : d < e) : sm (fun u => sm (fun v => if u < v then F u v else 0) [a, b, c, d, e]) [a, b, c, d, e] = F a b + F a c + F a d + F a e + F b c + F b d + F b e + F c d + F c e + F d e := by
  simp only [sm]
  rw [if_neg (Int.lt_irrefl a), if_pos h1, if_pos (show a < c by omega), if_pos (show a < d by omega), if_pos (show a < e by omega),
    if_neg (show ¬ b < a by omega), if_neg (Int.lt_irrefl b), if_pos h2, if_pos (show b < d by omega), if_pos (show b < e by omega),
    if_neg (show ¬ c < a by omega), if_neg (show ¬ c < b by omega), if_neg (Int.lt_irrefl c), if_pos h3, if_pos (show c < e by omega),
    if_neg (show ¬ d < a by omega), if_neg (show ¬ d < b by omega), if_neg (show ¬ d < c by omega), if_neg (Int.lt_irrefl d), if_pos h4,
    if_neg (show ¬ e < a by omega), if_neg (show ¬ e < b by omega), if_neg (show ¬ e < c by omega), if_neg (show ¬ e < d by omega), if_neg (Int.lt_irrefl e)]
  omega
theorem cov_five (hk : kdS n pk = 5) : covN (ptS n pk) (ptS n pk).length = usS n pk := by
  have hl := br_len5 hk
  obtain ⟨a, b, c, d, e, hbr⟩ := five_of hl
  have hr := br_rise n pk
  rw [hbr] at hr
  simp only [List.pairwise_cons, List.mem_cons, forall_eq_or_imp] at hr
  obtain ⟨⟨h1, _⟩, ⟨h2, _⟩, ⟨h3, _⟩, ⟨h4, _⟩, _⟩ := hr
  have hpl : (ptS n pk).length = 10 := by rw [pt_length, hk]; exact j5_length
  have hp : ∀ i x y, i < 10 → keyP [a, b, c, d, e] (j5 5 6) i = ⟨x, y⟩ → (lat (ptS n pk) i).length = (wyS n pk ⟨x, y⟩).length := fun i x y hi hkey => by
    rw [pt_at (by rw [← pt_length, hpl]; exact hi), bs_five hk, hbr, hk, show jsK 5 = j5 5 6 from rfl, hkey]
  rw [hpl]
  show 0 + (lat (ptS n pk) 0).length + (lat (ptS n pk) 1).length + (lat (ptS n pk) 2).length + (lat (ptS n pk) 3).length + (lat (ptS n pk) 4).length + (lat (ptS n pk) 5).length + (lat (ptS n pk) 6).length + (lat (ptS n pk) 7).length + (lat (ptS n pk) 8).length + (lat (ptS n pk) 9).length = _
  rw [hp 0 a b (by omega) rfl, hp 1 a c (by omega) rfl, hp 2 a d (by omega) rfl, hp 3 a e (by omega) rfl, hp 4 b c (by omega) rfl, hp 5 b d (by omega) rfl, hp 6 b e (by omega) rfl, hp 7 c d (by omega) rfl, hp 8 c e (by omega) rfl, hp 9 d e (by omega) rfl]
  unfold usS
  have : usR n pk = fun u => sm (fun v => if u < v then (wyS n pk ⟨u, v⟩).length else 0) [a, b, c, d, e] := by funext u; unfold usR; rw [hbr]
  rw [this, hbr, sum5 (fun u v => (wyS n pk ⟨u, v⟩).length) h1 h2 h3 h4]
  omega
theorem two_ways {F : Int → Int → Nat} {a b : Int} (h : a ≠ b) (hs : F b a = F a b) : (if a < b then F a b else 0) + (if b < a then F b a else 0) = F a b := by
  by_cases h1 : a < b
  · rw [if_pos h1, if_neg (by omega), Nat.add_zero]
  · rw [if_neg h1, if_pos (by omega), hs, Nat.zero_add]
theorem no_way {F : Int → Int → Nat} {a b : Int} (h : F a b = 0) : (if a < b then F a b else 0) = 0 := by rw [h]; split <;> rfl
theorem cov_threes (hm : netB n pk = true) (hk : kdS n pk = 33) (h : allS n pk) : covN (ptS n pk) (ptS n pk).length = usS n pk := by
  have hk0 : kdS n pk ≠ 0 := by omega
  have hg := ok_rg hm hk0 h
  have hl := (br_len33 hk).2
  obtain ⟨a, b, c, d, e, f, hbs⟩ := six_of hl
  have hnd := bs_nodup n pk
  have hin : ∀ x ∈ bsS n pk, x ∈ brS n pk := fun x hx => (bs_perm n pk).mem_iff.1 hx
  have hsym : ∀ x ∈ bsS n pk, ∀ y ∈ bsS n pk, (wyS n pk ⟨y, x⟩).length = (wyS n pk ⟨x, y⟩).length := fun x hx y hy => by
    have hx' := hin x hx
    have hy' := hin y hy
    obtain ⟨u, hu, _⟩ := br_mem hm hx'
    obtain ⟨v, hv, _⟩ := br_mem hm hy'
    rw [hu] at hx' ⊢
    rw [hv] at hy' ⊢
    exact wy_sym hm hk0 hg hy' hx'
  have hz : ∀ i j, i < 6 → j < 6 → (i < 3 ↔ j < 3) → (wyS n pk ⟨iat (bsS n pk) i, iat (bsS n pk) j⟩).length = 0 := fun i j hi hj hij => by
    have hx' := hin _ (iat_mem (l := bsS n pk) (j := i) (by omega))
    obtain ⟨u, hu, _⟩ := br_mem hm hx'
    have hp := side33 hm hk h hi hu
    rw [hu] at hx' ⊢
    rw [wy_none hx' fun hx => ?_]
    · rfl
    have hx := hp.mem_iff.1 hx
    by_cases hi3 : i < 3
    · rw [if_pos hi3] at hx
      obtain ⟨k, hk', ek⟩ := mem_iat hx
      rw [List.length_drop, hl] at hk'
      rw [iat_drop] at ek
      have := iat_inj hnd (by omega) (by omega) ek
      omega
    · rw [if_neg hi3] at hx
      obtain ⟨k, hk', ek⟩ := mem_iat hx
      rw [List.length_take, hl] at hk'
      rw [iat_take _ (by omega)] at ek
      have := iat_inj hnd (by omega) (by omega) ek
      omega
  have hpl : (ptS n pk).length = 9 := by rw [pt_length, hk]; exact j33_length
  have hp : ∀ i x y, i < 9 → keyP [a, b, c, d, e, f] (j33 3 3) i = ⟨x, y⟩ → (lat (ptS n pk) i).length = (wyS n pk ⟨x, y⟩).length := fun i x y hi hkey => by
    rw [pt_at (by rw [← pt_length, hpl]; exact hi), hbs, hk, show jsK 33 = j33 3 3 from rfl, hkey]
  rw [hpl]
  show 0 + (lat (ptS n pk) 0).length + (lat (ptS n pk) 1).length + (lat (ptS n pk) 2).length + (lat (ptS n pk) 3).length + (lat (ptS n pk) 4).length + (lat (ptS n pk) 5).length + (lat (ptS n pk) 6).length + (lat (ptS n pk) 7).length + (lat (ptS n pk) 8).length = _
  rw [hp 0 a d (by omega) rfl, hp 1 a e (by omega) rfl, hp 2 a f (by omega) rfl, hp 3 b d (by omega) rfl, hp 4 b e (by omega) rfl, hp 5 b f (by omega) rfl, hp 6 c d (by omega) rfl, hp 7 c e (by omega) rfl, hp 8 c f (by omega) rfl]
  have hus : usS n pk = sm (fun u => sm (fun v => if u < v then (wyS n pk ⟨u, v⟩).length else 0) [a, b, c, d, e, f]) [a, b, c, d, e, f] := by
    unfold usS
    rw [← sm_perm (bs_perm n pk), hbs]
    refine sm_congr fun u _ => ?_
    unfold usR
    rw [← sm_perm (bs_perm n pk), hbs]
  rw [hus]
  rw [hbs] at hnd hsym hz
  obtain ⟨F, hF⟩ : ∃ F : Int → Int → Nat, F = fun u v => (wyS n pk ⟨u, v⟩).length := ⟨_, rfl⟩
  have hFa : ∀ u v, (wyS n pk ⟨u, v⟩).length = F u v := fun u v => by rw [hF]
  simp only [hFa] at hsym hz ⊢
  have hne : ∀ i j, i < 6 → j < 6 → i ≠ j → iat [a, b, c, d, e, f] i ≠ iat [a, b, c, d, e, f] j := fun i j hi hj hij ee => hij (iat_inj hnd (by simpa using hi) (by simpa using hj) ee)
  have ma : a ∈ [a, b, c, d, e, f] := by simp
  have mb : b ∈ [a, b, c, d, e, f] := by simp
  have mc : c ∈ [a, b, c, d, e, f] := by simp
  have md : d ∈ [a, b, c, d, e, f] := by simp
  have me : e ∈ [a, b, c, d, e, f] := by simp
  have mf : f ∈ [a, b, c, d, e, f] := by simp
  have w1 := two_ways (F := F) (hne 0 3 (by omega) (by omega) (by omega)) (hsym a ma d md)
  have w2 := two_ways (F := F) (hne 0 4 (by omega) (by omega) (by omega)) (hsym a ma e me)
  have w3 := two_ways (F := F) (hne 0 5 (by omega) (by omega) (by omega)) (hsym a ma f mf)
  have w4 := two_ways (F := F) (hne 1 3 (by omega) (by omega) (by omega)) (hsym b mb d md)
  have w5 := two_ways (F := F) (hne 1 4 (by omega) (by omega) (by omega)) (hsym b mb e me)
  have w6 := two_ways (F := F) (hne 1 5 (by omega) (by omega) (by omega)) (hsym b mb f mf)
  have w7 := two_ways (F := F) (hne 2 3 (by omega) (by omega) (by omega)) (hsym c mc d md)
  have w8 := two_ways (F := F) (hne 2 4 (by omega) (by omega) (by omega)) (hsym c mc e me)
  have w9 := two_ways (F := F) (hne 2 5 (by omega) (by omega) (by omega)) (hsym c mc f mf)
  simp only [sm]
  rw [no_way (F := F) (show F a a = 0 from hz 0 0 (by omega) (by omega) Iff.rfl), no_way (F := F) (show F a b = 0 from hz 0 1 (by omega) (by omega) (by omega)), no_way (F := F) (show F a c = 0 from hz 0 2 (by omega) (by omega) (by omega)),
    no_way (F := F) (show F b a = 0 from hz 1 0 (by omega) (by omega) (by omega)), no_way (F := F) (show F b b = 0 from hz 1 1 (by omega) (by omega) Iff.rfl), no_way (F := F) (show F b c = 0 from hz 1 2 (by omega) (by omega) (by omega)),
    no_way (F := F) (show F c a = 0 from hz 2 0 (by omega) (by omega) (by omega)), no_way (F := F) (show F c b = 0 from hz 2 1 (by omega) (by omega) (by omega)), no_way (F := F) (show F c c = 0 from hz 2 2 (by omega) (by omega) Iff.rfl),
    no_way (F := F) (show F d d = 0 from hz 3 3 (by omega) (by omega) Iff.rfl), no_way (F := F) (show F d e = 0 from hz 3 4 (by omega) (by omega) (by omega)), no_way (F := F) (show F d f = 0 from hz 3 5 (by omega) (by omega) (by omega)),
    no_way (F := F) (show F e d = 0 from hz 4 3 (by omega) (by omega) (by omega)), no_way (F := F) (show F e e = 0 from hz 4 4 (by omega) (by omega) Iff.rfl), no_way (F := F) (show F e f = 0 from hz 4 5 (by omega) (by omega) (by omega)),
    no_way (F := F) (show F f d = 0 from hz 5 3 (by omega) (by omega) (by omega)), no_way (F := F) (show F f e = 0 from hz 5 4 (by omega) (by omega) (by omega)), no_way (F := F) (show F f f = 0 from hz 5 5 (by omega) (by omega) Iff.rfl)]
  simp only [show iat [a, b, c, d, e, f] 0 = a from rfl, show iat [a, b, c, d, e, f] 1 = b from rfl, show iat [a, b, c, d, e, f] 2 = c from rfl, show iat [a, b, c, d, e, f] 3 = d from rfl, show iat [a, b, c, d, e, f] 4 = e from rfl, show iat [a, b, c, d, e, f] 5 = f from rfl] at w1 w2 w3 w4 w5 w6 w7 w8 w9
  omega
/-- What the document asks, and what the program asks. -/
theorem ok_five (hm : netB n pk = true) (hk : kdS n pk = 5) (hg : RG n pk) : okS n pk ↔ usS n pk = pk.length := by
  rw [← cov_five hk]
  exact ⟨fun h => h.2.2, fun h => ⟨by omega, rg_all5 hm hk hg, h⟩⟩
theorem ok_threes (hm : netB n pk = true) (hk : kdS n pk = 33) : okS n pk ↔ allS n pk ∧ usS n pk = pk.length :=
  ⟨fun h => ⟨h.2.1, by rw [← cov_threes hm hk h.2.1]; exact h.2.2⟩, fun h => ⟨by omega, h.1, by rw [cov_threes hm hk h.1]; exact h.2⟩⟩
theorem ok_us (hm : netB n pk = true) (h : okS n pk) : RG n pk ∧ usS n pk = pk.length := by
  have hg := ok_rg hm h.1 h.2.1
  refine ⟨hg, ?_⟩
  rcases bs_len h.1 with ⟨h5, _⟩ | ⟨h33, _⟩
  · exact (ok_five hm h5 hg).1 h
  · exact ((ok_threes hm h33).1 h).2
/-- Three nodes are on either side. -/
theorem sdT_mem (P : Pt → List Int) (br : List Int) : ∀ k, k ≤ br.length → ∀ x, x ∈ sdT P br k ↔ ∃ i, i < k ∧ iat br i = x ∧ P ⟨iat br 0, x⟩ ≠ []
  | 0, _, x => by
    constructor
    · intro h; cases h
    · rintro ⟨_, h, _⟩; omega
  | k + 1, hk, x => by
    have ih := sdT_mem P br k (by omega) x
    unfold sdT
    by_cases hP : P ⟨iat br 0, iat br k⟩ = []
    · rw [if_pos hP, ih]
      constructor
      · rintro ⟨i, h1, h2, h3⟩; exact ⟨i, by omega, h2, h3⟩
      · rintro ⟨i, h1, h2, h3⟩
        refine ⟨i, ?_, h2, h3⟩
        have : i ≠ k := fun e => h3 (by rw [← h2, e]; exact hP)
        omega
    · rw [if_neg hP, List.mem_append, ih, List.mem_singleton]
      constructor
      · rintro (⟨i, h1, h2, h3⟩ | e)
        · exact ⟨i, by omega, h2, h3⟩
        · exact ⟨k, by omega, e.symm, by rw [e]; exact hP⟩
      · rintro ⟨i, h1, h2, h3⟩
        by_cases e : i = k
        · right; rw [← h2, e]
        · exact Or.inl ⟨i, by omega, h2, h3⟩
theorem sdT_sub (P : Pt → List Int) (br : List Int) : ∀ k, (sdT P br k).Sublist ((List.range k).map fun i => iat br i)
  | 0 => List.Sublist.refl _
  | k + 1 => by
    rw [List.range_succ, List.map_append]
    unfold sdT
    split
    · exact (sdT_sub P br k).trans (List.sublist_append_left _ _)
    · exact (sdT_sub P br k).append (List.Sublist.refl _)
theorem threes (hm : netB n pk = true) (hk : kdS n pk = 33) (hg : RG n pk) : (sdO (wyS n pk) (brS n pk) 6).length = 3 ∧ (sdT (wyS n pk) (brS n pk) 6).length = 3 ∧ wyS n pk ⟨iat (brS n pk) 0, iat (brS n pk) 0⟩ = [] := by
  have hk0 : kdS n pk ≠ 0 := by omega
  have hl := (br_len33 hk).1
  have hnd := br_nodup n pk
  have h0 : iat (brS n pk) 0 ∈ brS n pk := iat_mem (by omega)
  obtain ⟨v, hv, _⟩ := br_mem hm h0
  rw [hv] at h0
  have hen : (enL pk v).length = 3 := by rw [en_length, (br_deg hm hk0 h0).2, if_neg (by omega)]
  have hmap : ((List.range 6).map fun i => iat (brS n pk) i) = brS n pk := by
    refine iat_ext (by simp [hl]) fun j hj => ?_
    rw [List.length_map, List.length_range] at hj
    exact iat_range hj
  have hsn : (sdT (wyS n pk) (brS n pk) 6).Nodup := by
    have := sdT_sub (wyS n pk) (brS n pk) 6
    rw [hmap] at this
    exact hnd.sublist this
  have hp : (sdT (wyS n pk) (brS n pk) 6).Perm (enL pk v) := by
    refine (List.perm_ext_iff_of_nodup hsn (hg v h0).1).2 fun x => ?_
    rw [sdT_mem _ _ _ (by omega), hv]
    constructor
    · rintro ⟨_, _, _, h3⟩
      exact (wy_ne h0).1 h3
    · intro hx
      obtain ⟨i, hi, e⟩ := mem_iat (en_br hm hk0 h0 x hx)
      exact ⟨i, by omega, e, (wy_ne h0).2 hx⟩
  have h2 := hp.length_eq
  have h1 := sd_len (wyS n pk) (brS n pk) 6
  refine ⟨by omega, by omega, ?_⟩
  rw [hv]
  exact wy_none h0 (hg v h0).2
end
end Go.Proofs.Ytaebbfilgfkckaa

namespace Go.Proofs.Ytaebbfilgfkckaa
open Go.RowKit Go.Sort
open Go
section
variable {n : Nat} {es : List Pt} {l br : List Int}
def invN (l : List Int) (h : Nat) : Nat := ((List.range (2 * l.length)).find? fun q => rnN l q == h).getD 0
theorem inv_rn (hs : subE n es l = 0) {q : Nat} (hq : q < 2 * l.length) : invN l (rnN l q) = q := by
  unfold invN
  cases hf : (List.range (2 * l.length)).find? (fun x => rnN l x == rnN l q) with
  | none =>
    have := List.find?_eq_none.1 hf q (List.mem_range.2 hq)
    simp at this
  | some x =>
    have h1 := List.find?_some hf
    have h2 := List.mem_range.1 (List.mem_of_find?_eq_some hf)
    exact rn_inj hs h2 hq (by simpa using h1)
/-- The k-th half-edge that the document takes at a node, among those of the chosen edges. -/
def qE (es : List Pt) (l : List Int) (v k : Nat) : Nat := invN l (iat (eo es l v) k).toNat
theorem qE_is (hs : subE n es l = 0) {v k : Nat} (hk : k < (eo es l v).length) : qE es l v k < 2 * l.length ∧ fromL (pick es l) (qE es l v k) = v ∧ iat (eo es l v) k = (rnN l (qE es l v k) : Nat) := by
  obtain ⟨q, h1, h2, h3⟩ := eo_at hs hk
  have : qE es l v k = q := by unfold qE; rw [h3, Int.toNat_natCast]; exact inv_rn hs h1
  rw [this]
  exact ⟨h1, h2, h3⟩
theorem qE_inj (hs : subE n es l = 0) {v i j : Nat} (hi : i < (eo es l v).length) (hj : j < (eo es l v).length) (e : qE es l v i = qE es l v j) : i = j := eo_inj hi hj (by rw [(qE_is hs hi).2.2, (qE_is hs hj).2.2, e])
theorem qE_has (hs : subE n es l = 0) {v q : Nat} (hq : q < 2 * l.length) (hf : fromL (pick es l) q = v) : ∃ k, k < (eo es l v).length ∧ qE es l v k = q := by
  obtain ⟨j, hj, e⟩ := eo_has hs hq hf
  exact ⟨j, hj, by unfold qE; rw [e, Int.toNat_natCast]; exact inv_rn hs hq⟩
/-- Where it comes to. -/
abbrev eE (es : List Pt) (l : List Int) (v k : Nat) : Int := endI (pick es l) (qE es l v k)
/-- A branch node's row, as far as its half-edges were followed. -/
def rwX (es : List Pt) (l br : List Int) (v : Nat) : Nat → Nat → List Int
  | 0 => fun _ => []
  | k + 1 => fun j => if iat br j = eE es l v k then foE es l (qE es l v k) else rwX es l br v k j
theorem rwX_ne {v : Nat} : ∀ k {j : Nat}, rwX es l br v k j ≠ [] → ∃ a, a < k ∧ iat br j = eE es l v a
  | 0, _, h => absurd rfl h
  | k + 1, j, h => by
    by_cases e : iat br j = eE es l v k
    · exact ⟨k, by omega, e⟩
    · have h' : rwX es l br v k j ≠ [] := by
        intro hz
        refine h ?_
        show (if _ then _ else _) = _
        rw [if_neg e, hz]
      obtain ⟨a, h1, h2⟩ := rwX_ne k h'
      exact ⟨a, by omega, h2⟩
/-- The first k ends are unlike each other, and none is the node. -/
def GD (es : List Pt) (l : List Int) (v k : Nat) : Prop := (∀ a, a < k → eE es l v a ≠ v) ∧ ∀ a b, a < b → b < k → eE es l v a ≠ eE es l v b
theorem GD.less {v k i : Nat} (h : GD es l v k) (hi : i ≤ k) : GD es l v i := ⟨fun a ha => h.1 a (by omega), fun a b hab hb => h.2 a b hab (by omega)⟩
theorem GD.more {v k : Nat} (h : GD es l v k) (h1 : eE es l v k ≠ v) (h2 : ∀ a, a < k → eE es l v a ≠ eE es l v k) : GD es l v (k + 1) := by
  refine ⟨fun a ha => ?_, fun a b hab hb => ?_⟩
  · by_cases e : a = k
    · rw [e]; exact h1
    · exact h.1 a (by omega)
  · by_cases e : b = k
    · rw [e]; exact h2 a (by omega)
    · exact h.2 a b hab (by omega)
theorem rwX_at {v : Nat} : ∀ k {j a : Nat}, GD es l v k → a < k → iat br j = eE es l v a → rwX es l br v k j = foE es l (qE es l v a)
  | 0, _, _, _, ha, _ => by omega
  | k + 1, j, a, h, ha, e => by
    show (if _ then _ else _) = _
    by_cases hk : a = k
    · subst hk; rw [if_pos e]
    · rw [if_neg (fun e2 => h.2 a k (by omega) (by omega) (by rw [← e, e2])), rwX_at k (h.less (by omega)) (by omega) e]
theorem foE_ne (q : Nat) : foE es l q ≠ [] := fun e => fol_ne (pk := pick es l) q (by unfold foE at e; simpa using e)
/-- What is counted. -/
def phE (es : List Pt) (l : List Int) (v q : Nat) : Nat := if (v : Int) < endI (pick es l) q then (folL (pick es l) q).length else 0
def usX (es : List Pt) (l : List Int) (v k : Nat) : Nat := sm (phE es l v) ((List.range k).map (qE es l v))
theorem usX_succ (v k : Nat) : usX es l v (k + 1) = usX es l v k + phE es l v (qE es l v k) := by
  unfold usX
  rw [List.range_succ, List.map_append, sm_append]
  simp [sm]
theorem sm_le {α : Type} {f : α → Nat} {b : Nat} : ∀ {l : List α}, (∀ x ∈ l, f x ≤ b) → sm f l ≤ l.length * b
  | [], _ => by simp [sm]
  | x :: t, h => by
    have h1 := h x List.mem_cons_self
    have h2 := sm_le fun y hy => h y (List.mem_cons_of_mem _ hy)
    simp only [sm, List.length_cons]
    rw [Nat.add_mul, Nat.one_mul]
    omega
theorem foE_le (q : Nat) : (foE es l q).length ≤ 2 * l.length + 1 := by
  rw [foE_length, fol_length]
  have := fin_le (pick es l) (2 * (pick es l).length) q
  rw [pick_length] at this ⊢
  omega
theorem phE_le (v q : Nat) : phE es l v q ≤ 2 * l.length + 1 := by
  unfold phE
  split
  · rw [← foE_length es l q]; exact foE_le q
  · omega
theorem usX_le (v k : Nat) : usX es l v k ≤ k * (2 * l.length + 1) := by
  have := sm_le (f := phE es l v) (b := 2 * l.length + 1) (l := (List.range k).map (qE es l v)) fun x _ => phE_le v x
  rw [List.length_map, List.length_range] at this
  exact this
def usT (es : List Pt) (l br : List Int) (i : Nat) : Nat := sm (fun x : Int => usX es l x.toNat (eo es l x.toNat).length) (br.take i)
theorem usT_succ {i : Nat} (hi : i < br.length) : usT es l br (i + 1) = usT es l br i + usX es l (iat br i).toNat (eo es l (iat br i).toNat).length := by
  have hx : br[i] = iat br i := by unfold iat; rw [List.getD_eq_getElem?_getD, List.getElem?_eq_getElem hi]; rfl
  unfold usT
  rw [List.take_add_one, List.getElem?_eq_getElem hi, Option.toList_some, sm_append, hx]
  simp [sm]
theorem usT_le {i : Nat} (hd : ∀ j, j < br.length → (eo es l (iat br j).toNat).length ≤ 4) : usT es l br i ≤ i * (4 * (2 * l.length + 1)) := by
  have h1 := sm_le (f := fun x : Int => usX es l x.toNat (eo es l x.toNat).length) (b := 4 * (2 * l.length + 1)) (l := br.take i) fun x hx => by
    obtain ⟨j, hj, e⟩ := mem_iat (List.mem_of_mem_take hx)
    have h1 := usX_le (es := es) (l := l) x.toNat (eo es l x.toNat).length
    have h2 := hd j hj
    rw [e] at h2
    exact Nat.le_trans h1 (Nat.mul_le_mul_right _ h2)
  exact Nat.le_trans h1 (Nat.mul_le_mul_right _ (List.length_take_le _ _))
theorem usX_full (hs : subE n es l = 0) (v : Nat) : usX es l v (eo es l v).length = sm (fun x : Int => phE es l v x.toNat) (ow (pick es l) v) := by
  have hp : (pick es l).length = l.length := pick_length _ _
  rw [← sm_map (phE es l v) Int.toNat]
  refine sm_perm ((List.perm_ext_iff_of_nodup ?_ ?_).2 fun x => ?_)
  · rw [List.nodup_iff_pairwise_ne, List.pairwise_map]
    refine (List.pairwise_lt_range).imp_of_mem ?_
    intro a b ha hb hab e
    have := qE_inj hs (List.mem_range.1 ha) (List.mem_range.1 hb) e
    omega
  · rw [List.nodup_iff_pairwise_ne, List.pairwise_map]
    refine (ow_rise (pick es l) v).imp_of_mem ?_
    intro a b ha hb hab e
    obtain ⟨p, _, _, rfl⟩ := ow_mem.1 ha
    obtain ⟨q, _, _, rfl⟩ := ow_mem.1 hb
    omega
  · rw [List.mem_map, List.mem_map]
    constructor
    · rintro ⟨k, hk, rfl⟩
      obtain ⟨h1, h2, _⟩ := qE_is hs (List.mem_range.1 hk)
      exact ⟨_, ow_mem.2 ⟨_, by rw [hp]; exact h1, h2, rfl⟩, Int.toNat_natCast _⟩
    · rintro ⟨y, hy, rfl⟩
      obtain ⟨q, h1, h2, rfl⟩ := ow_mem.1 hy
      rw [hp] at h1
      obtain ⟨k, hk, e⟩ := qE_has hs h1 h2
      exact ⟨k, List.mem_range.2 hk, by rw [e, Int.toNat_natCast]⟩
theorem usT_full (hs : subE n es l = 0) (hk : kdS n (pick es l) ≠ 0) (hg : RG n (pick es l)) : usT es l (brS n (pick es l)) (brS n (pick es l)).length = usS n (pick es l) := by
  unfold usT usS
  rw [List.take_length]
  refine sm_congr fun x hx => ?_
  obtain ⟨u, hu, _⟩ := br_mem (net_pick hs) hx
  rw [hu] at hx ⊢
  rw [Int.toNat_natCast, usX_full hs]
  exact us_row (net_pick hs) hk hg hx
/-- All rows are good: the nodes have ends unlike each other. -/
theorem rg_of (hs : subE n es l = 0) (h : ∀ i, i < (brS n (pick es l)).length → GD es l (iat (brS n (pick es l)) i).toNat (eo es l (iat (brS n (pick es l)) i).toNat).length) : RG n (pick es l) := by
  have hp : (pick es l).length = l.length := pick_length _ _
  intro v hv
  obtain ⟨i, hi, e⟩ := mem_iat hv
  have hgd := h i hi
  rw [e, Int.toNat_natCast] at hgd
  refine ⟨?_, fun hx => ?_⟩
  · unfold enL
    rw [List.nodup_iff_pairwise_ne, List.pairwise_map]
    refine (ow_rise (pick es l) v).imp_of_mem ?_
    intro a b ha hb hab e2
    obtain ⟨p, p1, p2, rfl⟩ := ow_mem.1 ha
    obtain ⟨q, q1, q2, rfl⟩ := ow_mem.1 hb
    rw [hp] at p1 q1
    obtain ⟨k1, hk1, e3⟩ := qE_has hs p1 p2
    obtain ⟨k2, hk2, e4⟩ := qE_has hs q1 q2
    rw [Int.toNat_natCast, Int.toNat_natCast, ← e3, ← e4] at e2
    rcases Nat.lt_trichotomy k1 k2 with h1 | h1 | h1
    · exact hgd.2 k1 k2 h1 hk2 e2
    · rw [h1, e4] at e3; omega
    · exact hgd.2 k2 k1 h1 hk1 e2.symm
  · obtain ⟨q, q1, q2, q3⟩ := en_mem.1 hx
    rw [hp] at q1
    obtain ⟨k, hk, e3⟩ := qE_has hs q1 q2
    exact hgd.1 k hk (by show endI _ _ = _; rw [e3, q3])
theorem gd_rg (hs : subE n es l = 0) (hg : RG n (pick es l)) {v : Nat} (hv : (v : Int) ∈ brS n (pick es l)) : GD es l v (eo es l v).length := by
  have hp : (pick es l).length = l.length := pick_length _ _
  refine ⟨fun a ha e => ?_, fun a b hab hb e => ?_⟩
  · obtain ⟨h1, h2, _⟩ := qE_is hs ha
    exact rg_own hv (by rw [hp]; exact h1) h2 e hg
  · obtain ⟨h1, h2, _⟩ := qE_is hs (v := v) (k := a) (by omega)
    obtain ⟨h3, h4, _⟩ := qE_is hs hb
    have := hg.inj hv (by rw [hp]; exact h1) (by rw [hp]; exact h3) h2 h4 e
    have := qE_inj hs (v := v) (i := a) (by omega) hb this
    omega
/-- A row that is no good. -/
theorem bad_own (hs : subE n es l = 0) {v k : Nat} (hv : (v : Int) ∈ brS n (pick es l)) (hk : k < (eo es l v).length) (e : eE es l v k = v) : ¬ RG n (pick es l) := fun hg => (gd_rg hs hg hv).1 k hk e
theorem bad_two (hs : subE n es l = 0) {v a k : Nat} (hv : (v : Int) ∈ brS n (pick es l)) (ha : a < k) (hk : k < (eo es l v).length) (e : eE es l v a = eE es l v k) : ¬ RG n (pick es l) := fun hg => (gd_rg hs hg hv).2 a k ha hk e
/-- A whole row. -/
theorem row_is (hs : subE n es l = 0) (hg : RG n (pick es l)) {v : Nat} (hv : (v : Int) ∈ brS n (pick es l)) (br : List Int) (j : Nat) : rwX es l br v (eo es l v).length j = (wyS n (pick es l) ⟨(v : Int), iat br j⟩).map (rnI l) := by
  have hp : (pick es l).length = l.length := pick_length _ _
  by_cases h : iat br j ∈ enL (pick es l) v
  · obtain ⟨q, q1, q2, q3⟩ := en_mem.1 h
    obtain ⟨k, hk, e⟩ := qE_has hs (by rw [← hp]; exact q1) q2
    have he : iat br j = eE es l v k := by show _ = endI _ _; rw [e, q3]
    rw [rwX_at _ (gd_rg hs hg hv) hk he, ← q3, wy_val hg hv q1 q2, e]
    rfl
  · rw [wy_none hv h, List.map_nil]
    by_cases hz : rwX es l br v (eo es l v).length j = []
    · exact hz
    · obtain ⟨a, ha, e⟩ := rwX_ne _ hz
      obtain ⟨h1, h2, _⟩ := qE_is hs ha
      exact absurd (en_mem.2 ⟨_, by rw [hp]; exact h1, h2, e.symm⟩) h
/-- Where a half-edge's path ends, there is a branch node. -/
theorem eE_br (hs : subE n es l = 0) (hk0 : kdS n (pick es l) ≠ 0) {v k : Nat} (hv : (v : Int) ∈ brS n (pick es l)) (hk : k < (eo es l v).length) : ∃ j, j < (brS n (pick es l)).length ∧ iat (brS n (pick es l)) j = eE es l v k ∧ ∀ i, i < j → iat (brS n (pick es l)) i ≠ eE es l v k := by
  have hp : (pick es l).length = l.length := pick_length _ _
  obtain ⟨h1, h2, _⟩ := qE_is hs hk
  obtain ⟨u, e, h3, _⟩ := end_br (net_pick hs) hk0 hv (by rw [hp]; exact h1) h2
  obtain ⟨j, hj, e2⟩ := mem_iat h3
  refine ⟨j, hj, by rw [e2]; exact e.symm, fun i hi e3 => ?_⟩
  have := iat_inj (br_nodup n (pick es l)) (by omega) hj (e3.trans (by rw [e2]; exact e))
  omega
end
end Go.Proofs.Ytaebbfilgfkckaa

namespace Go.Proofs.Ytaebbfilgfkckaa
open Go.RowKit Go.Sort
open Go
theorem iat_apl {a b : List Int} {i : Nat} (h : i < a.length) : iat (a ++ b) i = iat a i := by
  unfold iat
  rw [List.getD_eq_getElem?_getD, List.getD_eq_getElem?_getD, List.getElem?_append_left h]
theorem iat_apr {a b : List Int} {i : Nat} (h : a.length ≤ i) : iat (a ++ b) i = iat b (i - a.length) := by
  unfold iat
  rw [List.getD_eq_getElem?_getD, List.getD_eq_getElem?_getD, List.getElem?_append_right h]
section
variable {n : Nat} {es : List Pt} {l : List Int}
/-- The last half-edge of a path. -/
theorem foE_last (hs : subE n es l = 0) {q : Nat} (hq : q < 2 * l.length) : ∃ z : Nat, (foE es l q).length = z + 1 ∧ ∃ h : Nat, iat (foE es l q) z = h ∧ h < 2 * es.length ∧ toL es h = endI (pick es l) q := by
  have hp : (pick es l).length = l.length := pick_length _ _
  have hm := net_pick hs
  have hlt := it_lt hm (h := q) (by rw [hp]; exact hq) (fin_runs (pick es l) (2 * (pick es l).length) q)
  rw [hp] at hlt
  refine ⟨fin (pick es l) (2 * (pick es l).length) q, by rw [foE_length, fol_length], rnN l (itN (pick es l) q (fin (pick es l) (2 * (pick es l).length) q)), ?_, ?_, ?_⟩
  · have hj : fin (pick es l) (2 * (pick es l).length) q < (folL (pick es l) q).length := by rw [fol_length]; omega
    unfold foE
    rw [iat_map _ _ 0 hj]
    show rnI l (iat _ _) = _
    rw [fol_at _ _ (Nat.le_refl _), hp]
    exact (rn_is hs hlt).1
  · rw [hp]; exact (rn_is hs hlt).2.1
  · rw [hp]
    rw [(rn_is hs hlt).2.2.2.1]
    unfold endI
    rw [hp]
/-- The first half-edge of a path. -/
theorem foE_first (hs : subE n es l = 0) {q : Nat} (hq : q < 2 * l.length) : iat (foE es l q) 0 = (rnN l q : Nat) := by
  have hj : 0 < (folL (pick es l) q).length := by rw [fol_length]; omega
  unfold foE
  rw [iat_map _ _ 0 hj]
  show rnI l (iat _ _) = _
  rw [fol_at _ _ (Nat.zero_le _)]
  exact (rn_is hs hq).1
/-- The paths in the answer's order. -/
def ptR (n : Nat) (es : List Pt) (l : List Int) : List (List Int) := (ptS n (pick es l)).map fun x => x.map (rnI l)
theorem ptR_length (n : Nat) (es : List Pt) (l : List Int) : (ptR n es l).length = (jsK (kdS n (pick es l))).length := by unfold ptR; rw [List.length_map, pt_length]
theorem ptR_is (n : Nat) (es : List Pt) (l : List Int) : ptR n es l = (List.range (jsK (kdS n (pick es l))).length).map fun i => (wyS n (pick es l) (keyP (bsS n (pick es l)) (jsK (kdS n (pick es l))) i)).map (rnI l) := by
  unfold ptR ptS
  rw [List.map_map]
  rfl
/-- Five nodes: the paths, as far as the document has taken them. -/
def p5F (X : Nat → Nat → List Int) (i k : Nat) : List (List Int) := (j5 i k).map fun p => X p.x.toNat p.y.toNat
theorem p5F_step (X : Nat → Nat → List Int) {i k : Nat} (hi : i < 5) (hk : k < 5) (hik : i < k) : p5F X i (k + 1) = p5F X i k ++ [X i k] := by
  unfold p5F
  rw [j5_step hi hk hik, List.map_append, List.map_cons, List.map_nil]
  simp only [Int.toNat_natCast]
theorem p5F_next (X : Nat → Nat → List Int) {i : Nat} (hi : i < 5) : p5F X i 5 = p5F X (i + 1) (i + 2) := by
  unfold p5F
  rw [j5_next hi]
theorem p5F_all {X : Nat → Nat → List Int} (hk : kdS n (pick es l) = 5) (hX : ∀ i j, i < 5 → j < 5 → X i j = (wyS n (pick es l) ⟨iat (brS n (pick es l)) i, iat (brS n (pick es l)) j⟩).map (rnI l)) : p5F X 5 6 = ptR n es l := by
  rw [ptR_is, hk, bs_five hk, show jsK 5 = j5 5 6 from rfl, j5_length]
  unfold p5F
  refine List.ext_getElem (by rw [List.length_map, j5_length]; simp) fun i h1 h2 => ?_
  rw [List.length_map, j5_length] at h1
  simp only [List.getElem_map, List.getElem_range]
  obtain ⟨x, y, e, hxy, hy⟩ := j5_at i h1
  have e2 : (j5 5 6)[i]'(by rw [j5_length]; exact h1) = ⟨(x : Int), (y : Int)⟩ := by
    rw [← e]
    unfold at'
    rw [List.getD_eq_getElem?_getD, List.getElem?_eq_getElem (by rw [j5_length]; exact h1)]
    rfl
  rw [e2]
  unfold keyP
  rw [e]
  simp only [Int.toNat_natCast]
  exact hX x y (by omega) hy
theorem sd_ix {P : Pt → List Int} {br : List Int} {f : Nat → List Int} : ∀ k, (∀ i, i < k → (f i = [] ↔ P ⟨iat br 0, iat br i⟩ = [])) → sdO P br k = (ixO f k).map (fun x => iat br x.toNat) ∧ sdT P br k = (ixT f k).map (fun x => iat br x.toNat)
  | 0, _ => ⟨rfl, rfl⟩
  | k + 1, h => by
    obtain ⟨a, b⟩ := sd_ix k fun i hi => h i (by omega)
    unfold sdO sdT ixO ixT
    by_cases e : f k = []
    · have e' := (h k (by omega)).1 e
      rw [if_pos e, if_pos e, if_pos e', if_pos e', a, b, List.map_append]
      exact ⟨by simp, rfl⟩
    · have e' : ¬ P ⟨iat br 0, iat br k⟩ = [] := fun x => e ((h k (by omega)).2 x)
      rw [if_neg e, if_neg e, if_neg e', if_neg e', a, b, List.map_append]
      exact ⟨rfl, by simp⟩
/-- Six nodes: the sides. -/
theorem six_sides {X : Nat → Nat → List Int} (hs : subE n es l = 0) (hk : kdS n (pick es l) = 33) (hg : RG n (pick es l)) (hX : ∀ i j, i < 6 → j < 6 → X i j = (wyS n (pick es l) ⟨iat (brS n (pick es l)) i, iat (brS n (pick es l)) j⟩).map (rnI l)) : X 0 0 = [] ∧ (ixO (X 0) 6).length = 3 ∧ ndL X (brS n (pick es l)) 6 = bsS n (pick es l) ∧ pfF X 9 = ptR n es l ∧ (allS n (pick es l) ↔ ∀ i k, i < 3 → k < 3 → X (oN (X 0) i) (sN (X 0) k) ≠ []) := by
  have hm := net_pick hs
  obtain ⟨t1, t2, t3⟩ := threes hm hk hg
  have hl := (br_len33 hk).1
  have hbs : bsS n (pick es l) = sdO (wyS n (pick es l)) (brS n (pick es l)) 6 ++ sdT (wyS n (pick es l)) (brS n (pick es l)) 6 := by
    unfold bsS sidesL
    rw [if_pos hk, hl]
  obtain ⟨a, b⟩ := sd_ix (P := wyS n (pick es l)) (br := brS n (pick es l)) (f := X 0) 6 fun i hi => by
    rw [hX 0 i (by omega) hi]
    simp
  have lo : (ixO (X 0) 6).length = 3 := by rw [a, List.length_map] at t1; exact t1
  have lt : (ixT (X 0) 6).length = 3 := by rw [b, List.length_map] at t2; exact t2
  have ho : ∀ i, i < 3 → iat (bsS n (pick es l)) i = iat (brS n (pick es l)) (oN (X 0) i) := fun i hi => by
    rw [hbs, iat_apl (by rw [t1]; exact hi), a, iat_map _ _ 0 (by rw [lo]; exact hi)]
    rfl
  have ht : ∀ i, i < 3 → iat (bsS n (pick es l)) (3 + i) = iat (brS n (pick es l)) (sN (X 0) i) := fun i hi => by
    rw [hbs, iat_apr (by rw [t1]; omega), t1, show 3 + i - 3 = i by omega, b, iat_map _ _ 0 (by rw [lt]; exact hi)]
    rfl
  have hbl := (br_len33 hk).2
  have hkey : ∀ i k, i < 3 → k < 3 → X (oN (X 0) i) (sN (X 0) k) = (wyS n (pick es l) ⟨iat (bsS n (pick es l)) i, iat (bsS n (pick es l)) (3 + k)⟩).map (rnI l) := fun i k hi hk' => by
    rw [hX _ _ (oN_is (by rw [lo]; exact hi)).2 (sN_is (by rw [lt]; exact hk')).2, ho i hi, ht k hk']
  refine ⟨by rw [hX 0 0 (by omega) (by omega), t3]; rfl, lo, ?_, ?_, ?_⟩
  · refine iat_ext (by rw [ndL_length, hbl]) fun j hj => ?_
    rw [ndL_length] at hj
    unfold ndL
    rw [iat_range hj]
    by_cases h : j < 3
    · rw [if_pos h, ho j h]
    · rw [if_neg h, ← ht (j - 3) (by omega), show 3 + (j - 3) = j by omega]
  · rw [ptR_is, hk, show jsK 33 = j33 3 3 from rfl, j33_length]
    unfold pfF
    refine List.map_congr_left fun t ht9 => ?_
    have ht9' := List.mem_range.1 ht9
    rw [hkey _ _ (by omega) (by omega)]
    unfold keyP
    rw [j33_at t ht9']
    simp only [Int.toNat_natCast]
  · rw [all33 hk]
    constructor
    · intro h i k hi hk' e
      rw [hkey i k hi hk'] at e
      exact h i k hi hk' (by simpa using e)
    · intro h i k hi hk' e
      exact h i k hi hk' (by rw [hkey i k hi hk', e]; rfl)
end
end Go.Proofs.Ytaebbfilgfkckaa

namespace Go.Proofs.Ytaebbfilgfkckaa
open Go.RowKit Go.Sort
open Go
theorem info30r : (Try.prog.info? 30).map (fun i => (i.zero, i.size, i.bytes)) = some (some (.slice none 0 0), 1, 24) := by kernel_rfl
theorem neq25n (w : World) : (binOp .neq 25 (.slice none 0 0) (.slice none 0 0)).run Try.prog w = .ok (.bool false) w := by kernel_rfl
theorem neq25s (w : World) (a : Addr) (l c : Nat) : (binOp .neq 25 (.slice (some a) l c) (.slice none 0 0)).run Try.prog w = .ok (.bool true) w := by kernel_rfl
/-- What All answers. -/
def AllPost (n : Nat) (es : List Pt) (l : List Int) (w : World) (e : Ending) (w' : World) : Prop :=
  (¬ okS n (pick es l) ∧ e = .returned (.tuple #[.int .i64 0, .slice none 0 0, .slice none 0 0])) ∨
  (okS n (pick es l) ∧ ∃ p c q cq, e = .returned (.tuple #[.int .i64 (kdS n (pick es l)), .slice p (bsS n (pick es l)).length c, .slice q (ptR n es l).length cq]) ∧ IHasB w.heap.size w' p (bsS n (pick es l)) ∧ RHasB w.heap.size w' q (ptR n es l))
theorem WRow.psl {w : World} {B g n x : Nat} {L : Nat → List Int} (h : WRow w B g n L) (hx : x < n) : ∃ a c, w.cell? ⟨g, x, none⟩ = some (.slice a (L x).length c) ∧ PSl B w (.slice a (L x).length c) (L x) := by
  rcases h.look hx with ⟨e, c0⟩ | ⟨_, ad, c, c0, h1, h2, h3, h9⟩
  · exact ⟨none, 0, by rw [e]; exact c0, none, 0, rfl, by rw [e]; exact ⟨Or.inl rfl, fun h => absurd rfl h⟩, by rw [e]; simp, by rw [e]; simp, fun _ => rfl⟩
  · exact ⟨some ad, c, c0, _, _, rfl, ⟨h1, fun _ a e => by injection e with e; rw [← e]; exact h9⟩, h2, h3, fun e => by cases e⟩
/-- The rows of the first i branch nodes, all good. -/
structure RowOut (es : List Pt) (l br : List Int) (B gw : Nat) (i : Nat) (gs : Nat → Nat) (X : Nat → Nat → List Int) (w : World) : Prop where
  wy : Wy w B gw br.length i gs X
  old : ∀ a, a < i → ∀ j, j < br.length → X a j = rwX es l br (iat br a).toNat (eo es l (iat br a).toNat).length j
  gd : ∀ a, a < i → GD es l (iat br a).toNat (eo es l (iat br a).toNat).length
/-- And of one more the first k half-edges. -/
structure RowIn (es : List Pt) (l br : List Int) (B gw : Nat) (i k : Nat) (gs : Nat → Nat) (X : Nat → Nat → List Int) (w : World) : Prop where
  wy : Wy w B gw br.length (i + 1) gs X
  old : ∀ a, a < i → ∀ j, j < br.length → X a j = rwX es l br (iat br a).toNat (eo es l (iat br a).toNat).length j
  gd : ∀ a, a < i → GD es l (iat br a).toNat (eo es l (iat br a).toNat).length
  cur : ∀ j, j < br.length → X i j = rwX es l br (iat br i).toNat k j
  gdc : GD es l (iat br i).toNat k
theorem RowOut.later {es : List Pt} {l br : List Int} {B gw i : Nat} {gs : Nat → Nat} {X : Nat → Nat → List Int} {w w' : World} (h : RowOut es l br B gw i gs X w) (hb : Below w.heap.size w w') : RowOut es l br B gw i gs X w' := ⟨h.wy.later hb, h.old, h.gd⟩
theorem RowIn.later {es : List Pt} {l br : List Int} {B gw i k : Nat} {gs : Nat → Nat} {X : Nat → Nat → List Int} {w w' : World} (h : RowIn es l br B gw i k gs X w) (hb : Below w.heap.size w w') : RowIn es l br B gw i k gs X w' := ⟨h.wy.later hb, h.old, h.gd, h.cur, h.gdc⟩
theorem RowIn.start {es : List Pt} {l br : List Int} {B gw i g' : Nat} {gs : Nat → Nat} {X : Nat → Nat → List Int} {w w5 : World} (h : RowOut es l br B gw i gs X w) (hi : i < br.length) (hg : g' = w.heap.size) (hb : Below w.heap.size w w5) (r : WRow w5 B g' br.length (fun _ => [])) : ∃ gs' X', gs' i = g' ∧ RowIn es l br B gw i 0 gs' X' (w5.setCell ⟨gw, i, none⟩ (.slice (some ⟨g', 0, none⟩) br.length br.length)) := by
  have hf : ∀ j, j < i → gs j ≠ g' := fun j hj e => by have := (h.wy.row j hj).lt.2; omega
  have hgw : gw ≠ g' := by have := h.wy.lt.2; omega
  refine ⟨upd gs i g', upd X i (fun _ => []), upd_same _ _ _, (h.wy.later hb).put hi r hf hgw, fun a ha j hj => ?_, h.gd, fun j hj => ?_, ⟨fun a ha => by omega, fun a b hab hb => by omega⟩⟩
  · rw [upd_other _ _ (by omega)]; exact h.old a ha j hj
  · rw [upd_same]; rfl
theorem RowIn.done {es : List Pt} {l br : List Int} {B gw i : Nat} {gs : Nat → Nat} {X : Nat → Nat → List Int} {w : World} (h : RowIn es l br B gw i (eo es l (iat br i).toNat).length gs X w) : RowOut es l br B gw (i + 1) gs X w := by
  refine ⟨h.wy, fun a ha j hj => ?_, fun a ha => ?_⟩
  · by_cases e : a = i
    · rw [e]; exact h.cur j hj
    · exact h.old a (by omega) j hj
  · by_cases e : a = i
    · rw [e]; exact h.gdc
    · exact h.gd a (by omega)
/-- One half-edge more. -/
theorem RowIn.step {es : List Pt} {l br : List Int} {B gw i k j0 b c : Nat} {gs : Nat → Nat} {X : Nat → Nat → List Int} {w : World} (h : RowIn es l br B gw i k gs X w) (hn : br.Nodup) (hj : j0 < br.length) (hi : i < br.length) (hji : j0 ≠ i) (he : iat br j0 = eE es l (iat br i).toNat k) (hv : ((iat br i).toNat : Int) = iat br i) (hz : X i j0 = []) (h1 : IHas w (some ⟨b, 0, none⟩) (foE es l (qE es l (iat br i).toNat k))) (h2 : (foE es l (qE es l (iat br i).toNat k)).length ≤ maxLen) (h3 : (foE es l (qE es l (iat br i).toNat k)).length ≤ c) (hb : b ≠ gs i) (hT : B ≤ b) : ∃ X', RowIn es l br B gw i (k + 1) gs X' (w.setCell ⟨gs i, j0, none⟩ (.slice (some ⟨b, 0, none⟩) (foE es l (qE es l (iat br i).toNat k)).length c)) := by
  refine ⟨_, h.wy.set (k := i) (x := j0) (by omega) hj h1 h2 h3 (foE_ne _) hb hT, fun a ha j hj' => ?_, h.gd, fun j hj' => ?_, h.gdc.more (fun e => ?_) fun a ha e => ?_⟩
  · rw [upd_other _ _ (by omega)]; exact h.old a ha j hj'
  · rw [upd_same]
    show _ = if iat br j = eE es l (iat br i).toNat k then _ else _
    by_cases e : j = j0
    · rw [e, upd_same, if_pos he]
    · rw [upd_other _ _ e, if_neg fun e2 => e (iat_inj hn hj' hj (e2.trans he.symm))]
      exact h.cur j hj'
  · exact hji (iat_inj hn hj hi (by rw [he, e, hv]))
  · have := h.cur j0 hj
    rw [hz, rwX_at k h.gdc ha (he.trans e.symm)] at this
    exact foE_ne _ this.symm
theorem j5_short (i k : Nat) (hi : i ≤ 5) (hk : k ≤ 6) : (j5 i k).length ≤ 100 := by
  have h : ∀ i, i < 6 → ∀ k, k < 7 → (j5 i k).length ≤ 100 := by decide
  exact h i (by omega) k (by omega)
set_option maxRecDepth 100000 in
set_option maxHeartbeats 64000000 in
theorem all9 (n : Nat) (p q : Option Addr) (es : List Pt) (l : List Int) (cp cq : Nat) (w : World) (h : Has w p es) (k : IHas w q l) (hs : subE n es l = 0) : Calls Try.prog 9 #[nv n p es.length cp, .slice q l.length cq] w fun e w' => AllPost n es l w e w' ∧ Below w.heap.size w w' := by
  obtain ⟨W, hW, hb0, a0⟩ := one_net w n p es.length cp
  obtain ⟨hm, hin, _⟩ := sub_ok hs
  have hll := sub_len hs
  obtain ⟨_, n1, hes, _⟩ := netB_is hm
  have hpl : (pick es l).length = l.length := pick_length _ _
  have hmp := net_pick hs
  have C1 := hide (degrees32 n p q es l cp cq W (h.later hb0) (k.later hb0) hm hin (by omega))
  have C2 : Hid (∀ V gd B, IRow V B gd n (degN (pick es l) n l.length) → Calls Try.prog 33 #[.slice (some ⟨gd, 0, none⟩) n n] V fun e w' => ∃ p c, e = .returned (.tuple #[.slice p (brS n (pick es l)).length c, .int .i64 (kdS n (pick es l))]) ∧ IOwns w' V.heap.size (.slice p (brS n (pick es l)).length c) (brS n (pick es l)) ∧ Below V.heap.size V w') := fun V gd B hD => by
    have := branch33 n gd B _ V hD (by omega)
    have e1 : brL (degN (pick es l) n l.length) n = brS n (pick es l) := by unfold brS; rw [hpl]
    have e2 : kdI (degN (pick es l) n l.length) n = kdS n (pick es l) := by unfold kdS; rw [hpl]
    rw [e1, e2] at this
    exact this
  have C34 : Hid (∀ V, Below W.heap.size W V → Calls Try.prog 34 #[nv n p es.length cp, .slice q l.length cq] V fun e w' => ∃ g, e = .returned (.slice (some ⟨g, 0, none⟩) n n) ∧ RHas w' (some ⟨g, 0, none⟩) (eosL es l n) ∧ Below V.heap.size V w') := fun V hV => by
    refine (outs34 n p q es l cp cq V ((h.later hb0).later hV) ((k.later hb0).later hV) hs).mono ?_
    rintro e w' ⟨g, rv, rfl, hr, hb⟩
    exact ⟨g, rfl, hr.has (eosL_length es l n) (fun v hv => by rw [eosL_at es l hv]) (fun v hv => by rw [eosL_at es l hv]; have := eoL_length es l (2 * es.length) v; unfold maxLen; show (eoL es l (2 * es.length) v).length ≤ _; omega), hb⟩
  have FW0 : Hid (∀ V (go gd B q' : Nat), Below W.heap.size W V → RHas V (some ⟨go, 0, none⟩) (eosL es l n) → IRow V B gd n (degN (pick es l) n l.length) → q' < 2 * l.length → (ow (pick es l) (fromL (pick es l) q').toNat).length ≠ 2 → Calls Try.prog 35 #[nv n p es.length cp, .slice (some ⟨go, 0, none⟩) n n, .slice (some ⟨gd, 0, none⟩) n n, .int .i64 (rnN l q' : Nat)] V fun e w' => ∃ g c, e = .returned (.slice (some ⟨g, 0, none⟩) (foE es l q').length c) ∧ IOwns w' V.heap.size (.slice (some ⟨g, 0, none⟩) (foE es l q').length c) (foE es l q') ∧ Below V.heap.size V w') := fun V go gd B q' hV hr hd h1 h2 => by
    refine (follow35 n p cp (some ⟨go, 0, none⟩) n gd B q' es l V ((h.later hb0).later hV) hr hd hs h1 h2).mono ?_
    rintro e w' ⟨p', c, rfl, o, hpos, hb⟩
    obtain ⟨p8, c8, h8, k1, _, _, k2⟩ := o.form
    cases p' with
    | none =>
      injection h8 with h81
      rw [← h81] at k1
      rcases k1 with k1 | ⟨_, _, k1, _⟩
      · rw [k1] at hpos; simp at hpos
      · cases k1
    | some a =>
      injection h8 with h81
      obtain ⟨a1, a2, _⟩ := k2 a h81.symm
      obtain ⟨ab, ao, asp⟩ := a
      simp only at a1 a2
      subst a1 a2
      exact ⟨ab, c, rfl, o, hb⟩
  have TOC : Hid (∀ V (hh : Nat), Below W.heap.size W V → hh < 2 * es.length → Calls Try.prog 36 #[nv n p es.length cp, .int .i64 hh] V fun e w' => e = .returned (.int .i64 (toL es hh)) ∧ Below V.heap.size V w') := fun V hh hV hl => to43 n p es cp hh V ((h.later hb0).later hV) hl (by omega)
  have HNO : Hid (¬ RG n (pick es l) → ¬ okS n (pick es l)) := fun h1 h2 => h1 (ok_us hmp h2).1
  have HBRF : Hid (kdS n (pick es l) ≠ 0 → ∀ j, j < (brS n (pick es l)).length → ∃ v : Nat, iat (brS n (pick es l)) j = v ∧ v < n ∧ (v : Int) ∈ brS n (pick es l) ∧ (eo es l v).length ≤ 4 ∧ (ow (pick es l) v).length ≠ 2) := fun hk j hj => by
    have hmem := iat_mem hj
    obtain ⟨v, e, _⟩ := br_mem hmp hmem
    rw [e] at hmem
    obtain ⟨d1, d2⟩ := br_deg hmp hk hmem
    refine ⟨v, e, d1, hmem, ?_, br_ne2 hmp hk hmem⟩
    rw [eo_length hs, d2]
    split <;> omega
  have HLEN : Hid (kdS n (pick es l) = 0 ∨ (kdS n (pick es l) = 5 ∧ (brS n (pick es l)).length = 5) ∨ (kdS n (pick es l) = 33 ∧ (brS n (pick es l)).length = 6)) := by
    by_cases hk : kdS n (pick es l) = 0
    · exact Or.inl hk
    · have := bs_len hk
      rw [bs_length] at this
      exact Or.inr this
  have HQ : Hid (∀ v k, k < (eo es l v).length → qE es l v k < 2 * l.length ∧ fromL (pick es l) (qE es l v k) = v ∧ iat (eo es l v) k = (rnN l (qE es l v k) : Nat)) := fun v k hk => qE_is hs hk
  have HEBR : Hid (kdS n (pick es l) ≠ 0 → ∀ v k : Nat, (v : Int) ∈ brS n (pick es l) → k < (eo es l v).length → ∃ j, j < (brS n (pick es l)).length ∧ iat (brS n (pick es l)) j = eE es l v k ∧ ∀ i, i < j → iat (brS n (pick es l)) i ≠ eE es l v k) := fun hk0 v k hv hk => eE_br hs hk0 hv hk
  have HOWN : Hid (∀ v k : Nat, (v : Int) ∈ brS n (pick es l) → k < (eo es l v).length → eE es l v k = v → ¬ RG n (pick es l)) := fun v k hv hk e => bad_own hs hv hk e
  have HTWO : Hid (∀ v a k : Nat, (v : Int) ∈ brS n (pick es l) → a < k → k < (eo es l v).length → eE es l v a = eE es l v k → ¬ RG n (pick es l)) := fun v a k hv ha hk e => bad_two hs hv ha hk e
  have HLAST : Hid (∀ q', q' < 2 * l.length → ∃ z : Nat, (foE es l q').length = z + 1 ∧ ∃ h : Nat, iat (foE es l q') z = h ∧ h < 2 * es.length ∧ toL es h = endI (pick es l) q') := fun q' hq' => foE_last hs hq'
  have HLE : Hid (∀ q', (foE es l q').length ≤ 2 * l.length + 1) := fun q' => foE_le q'
  have HND := hide (br_nodup n (pick es l))
  have HRI := hide (br_rise n (pick es l))
  have HSUB := hide hs
  have HMP := hide hmp
  have HPL := hide hpl
  have HB := hide hb0
  have HA := hide a0
  obtain ⟨q0, q1, _, _⟩ := a0
  clear h k hb0 hin hs hm
  go_enter Try.func9, Try.ntmps9
  go_upto_region 1 with fail
  rw [← hW]
  clear hW
  go_wp2_with fail
  refine C1.out.mono ?_
  rintro r w1 ⟨gd, rfl, hD, hb1⟩
  have HD := hide hD
  have HB1 := hide hb1
  have CC2 := hide (C2.out w1 gd _ hD)
  clear C1 C2 hD hb1 q0 q1
  go_wp2_with fail
  refine CC2.out.mono ?_
  rintro r w2 ⟨pb, cb, rfl, hbo, hb2⟩
  have HB2 := hide (below_step HB1.out hb2)
  have HD2 := hide (HD.out.later hb2)
  have HBO := hide hbo
  clear CC2 hbo hb2 HD
  by_cases hk0 : kdS n (pick es l) = 0
  · have HZ : Hid (¬ okS n (pick es l)) := fun h => h.1 hk0
    have HE := hide (below_step HB.out HB2.out)
    rw [hk0]
    go_wp2
    go_ret3
    exact ⟨Or.inl ⟨HZ.out, rfl⟩, HE.out⟩
  have HK0 := hide hk0
  have k0 : (kdS n (pick es l) == 0) = false := by rw [beq_eq_false_iff_ne]; exact hk0
  have hm56 : (brS n (pick es l)).length = 5 ∨ (brS n (pick es l)).length = 6 := by
    rcases HLEN.out with e | ⟨_, e⟩ | ⟨_, e⟩
    · exact absurd e hk0
    · exact Or.inl e
    · exact Or.inr e
  have HBRF := hide (HBRF.out hk0)
  have HEBR := hide (HEBR.out hk0)
  obtain ⟨br, hbr⟩ : ∃ x, brS n (pick es l) = x := ⟨_, rfl⟩
  have HBRE := hide hbr
  obtain ⟨kd, hkd⟩ : ∃ x, kdS n (pick es l) = x := ⟨_, rfl⟩
  have HKD := hide hkd
  rw [hbr] at HBO HLEN HND HRI hm56 HBRF HEBR HOWN HTWO ⊢
  rw [hkd] at HLEN k0 HK0 ⊢
  have C3 := hide (C34.out w2 HB2.out)
  obtain ⟨q0, q1, _, _⟩ := HA.out.later HB2.out
  clear hk0 hbr hkd C34
  go_wp2_with fail
  refine C3.out.mono ?_
  rintro r w3 ⟨go, rfl, hro, hb3⟩
  have HB3 := hide (below_step HB2.out hb3)
  have HBQ := hide (below_step HB.out HB3.out)
  have HNB := hide (iowns_has (HBO.out.later hb3))
  have HBL2 : Hid (∀ bb ob, pb = some ⟨bb, ob, none⟩ → w.heap.size ≤ bb) := fun bb ob e => by
    have h1 := (World.ownsRow.lt HBO.out bb (by rw [e]; rfl)).1
    have h2 := HB.out.size
    have h3 := HB1.out.size
    omega
  have HRO := hide hro
  have HD3 := hide (HD2.out.later hb3)
  obtain ⟨bb, ob, rfl, hLb⟩ : ∃ b1 off, pb = some ⟨b1, off, none⟩ ∧ ILies w3 b1 off br := by
    rcases HNB.out with e | e
    · rw [e] at hm56; simp at hm56
    · exact e
  have HBL2 : Hid (w.heap.size ≤ bb) := HBL2.out bb ob rfl
  have HCL : Hid (∀ V, Below w3.heap.size w3 V → (V.cell? ⟨w.heap.size, 0, none⟩ = some (.int .i64 n) ∧ V.cell? ⟨w.heap.size, 1, none⟩ = some (.slice p es.length cp)) ∧ ∀ i, i < br.length → V.cell? ⟨bb, ob + i, none⟩ = some (.int .i64 (iat br i))) := fun V hV => by
    obtain ⟨q0, q1, _, _⟩ := HA.out.later (below_step HB3.out hV)
    exact ⟨⟨q0, q1⟩, fun i hi => later hV (hLb i hi)⟩
  have HROW : Hid (∀ v, v < n → ∃ a c, ∀ V, Below w3.heap.size w3 V → V.cell? ⟨go, v, none⟩ = some (.slice a (eo es l v).length c) ∧ IHas V a (eo es l v)) := fun v hv => by
    obtain ⟨b, off, a, c, h1, h2, h3, _⟩ := HRO.out.at_ (v := v) (by rw [eosL_length]; exact hv)
    injection h1 with h1
    injection h1 with h11 h12
    rw [eosL_at es l hv] at h2 h3
    subst h11 h12
    rw [Nat.zero_add] at h2
    exact ⟨a, c, fun V hV => ⟨later hV h2, h3.later hV⟩⟩
  have FW : Hid (∀ V (q' : Nat), Below w3.heap.size w3 V → q' < 2 * l.length → (ow (pick es l) (fromL (pick es l) q').toNat).length ≠ 2 → Calls Try.prog 35 #[nv n p es.length cp, .slice (some ⟨go, 0, none⟩) n n, .slice (some ⟨gd, 0, none⟩) n n, .int .i64 (rnN l q' : Nat)] V fun e w' => ∃ g c, e = .returned (.slice (some ⟨g, 0, none⟩) (foE es l q').length c) ∧ IOwns w' V.heap.size (.slice (some ⟨g, 0, none⟩) (foE es l q').length c) (foE es l q') ∧ Below V.heap.size V w') := fun V q' hV h1 h2 => FW0.out V go gd _ q' (below_step HB3.out hV) (HRO.out.later hV) (HD3.out.later hV) h1 h2
  have TC : Hid (∀ V (hh : Nat), Below w3.heap.size w3 V → hh < 2 * es.length → Calls Try.prog 36 #[nv n p es.length cp, .int .i64 hh] V fun e w' => e = .returned (.int .i64 (toL es hh)) ∧ Below V.heap.size V w') := fun V hh hV hl => TOC.out V hh (below_step HB3.out hV) hl
  obtain ⟨m, hmm⟩ : ∃ m, br.length = m := ⟨_, rfl⟩
  have HMM := hide hmm
  rw [hmm] at HLEN hm56 ⊢
  have hwl : w.heap.size < w3.heap.size := by have := block_lt_of_cell (HCL.out w3 (Below.refl _ _)).1.1; simpa using this
  clear C3 hro hb3 hLb FW0 TOC HB2 HB3 HB1 HD2 HBO HRO HD3 hmm q0 q1
  obtain ⟨kb, hkb⟩ : ∃ x, w.heap.size = x := ⟨_, rfl⟩
  have HKB := hide hkb
  rw [hkb] at HCL HA hwl ⊢
  clear hkb
  obtain ⟨i0, hi0, hz0, hz1, hz2⟩ := info_parts info30r
  obtain ⟨y0, hy0, yz0, yz1, yz2⟩ := info_parts info41
  go_wp2_with (refine wpList_make_full _ rfl (.tmp 36) (.tmp 36) 68 rfl w3.heap.size 30 i0 (.slice none 0 0) 1 Try.underlying68 hi0 hz0 hz1 .i64 .i64 _ _ m rfl rfl rfl rfl ?c1 ?c2 ?c3 ?_)
  case c1 => first | omega | (rw [hz2]; omega)
  case c2 => unfold maxLen; omega
  case c3 => exact Nat.le_refl _
  intro w4 hown hgrow
  have hb4 := below_made hgrow
  obtain ⟨gw, hgw⟩ : ∃ x, w3.heap.size = x := ⟨_, rfl⟩
  have HGW := hide hgw
  rw [hgw] at hown hwl ⊢
  have HRO : Hid (RowOut es l br gw gw 0 (fun _ => 0) (fun _ _ => []) w4) := ⟨by rw [HMM.out]; exact wys_none hown _ _, fun a ha => by omega, fun a ha => by omega⟩
  have HB4 := hide hb4
  clear hown hgrow hb4 hgw
  go_wp2_with fail
  go_loopw [13, 14] (fun t13 t14 wr => ∃ (i : Nat) (gs : Nat → Nat) (X : Nat → Nat → List Int), i ≤ m ∧ t14 = .int .i64 i ∧ t13 = .int .i64 (usT es l br i : Nat) ∧ Hid (Below w3.heap.size w3 wr) ∧ Hid (RowOut es l br gw gw i gs X wr)) (fun _ t14 _ => m - (intOf t14).toNat)
  case atStart => exact ⟨0, _, _, by omega, rfl, rfl, HB4.out, HRO.out⟩
  case round =>
    obtain ⟨i, gs, X, hi, rfl, rfl, HBr, HRr⟩ := hrel
    clear HRO HB4
    by_cases him : i < m
    · have j1 : (i : Int) < m := by omega
      have hib : i < br.length := by have := HMM.out; omega
      obtain ⟨v, hv, hvn, hvb, hv4, hv2⟩ := HBRF.out i hib
      have HVB := hide hvb
      have HV2 := hide hv2
      have HVE := hide hv
      have ut := usT_le (es := es) (l := l) (br := br) (i := i) fun j hj => by
        obtain ⟨u, hu, _, _, h4, _⟩ := HBRF.out j hj
        rw [hu, Int.toNat_natCast]; exact h4
      have hut : usT es l br i ≤ 200000 := by
        have h1 : i * (4 * (2 * l.length + 1)) ≤ 6 * (4 * (2 * l.length + 1)) := Nat.mul_le_mul_right _ (by omega)
        omega
      have HUS : Hid (usT es l br (i + 1) = usT es l br i + usX es l v (eo es l v).length) := by
        show _ = _
        rw [usT_succ hib, hv, Int.toNat_natCast]
      have hgl := HRr.out.wy.lt.2
      clear hv hvb hv2 ut
      go_wp2_with (refine wpList_make_full _ rfl (.tmp 45) (.tmp 45) 30 rfl wr.heap.size 25 y0 (.slice none 0 0) 1 Try.underlying30 hy0 yz0 yz1 .i64 .i64 _ _ m rfl rfl rfl rfl ?d1 ?d2 ?d3 ?_)
      case d1 => first | omega | (rw [yz2]; omega)
      case d2 => unfold maxLen; omega
      try (case d3 => exact Nat.le_refl _)
      intro w5 hown hgrow
      have hb5 := below_made hgrow
      have HWR : Hid (WRow w5 gw wr.heap.size br.length (fun _ => [])) := by
        have h1 := wrow_made hown
        obtain ⟨rv, r1, r2⟩ := h1
        exact ⟨rv, by rw [HMM.out]; exact ⟨owns_base r1.own (by omega), r1.row⟩, fun x hx => ⟨(r2 x (by rw [← HMM.out]; exact hx)).1, fun e => absurd rfl e⟩⟩
      obtain ⟨z0, z1⟩ := (HRr.out.wy.later hb5).cell (j := i) hib
      rw [if_neg (by omega)] at z0
      have HIN : Hid (∃ gs' X', gs' i = wr.heap.size ∧ RowIn es l br gw gw i 0 gs' X' (w5.setCell ⟨gw, i, none⟩ (.slice (some ⟨wr.heap.size, 0, none⟩) m m))) := by
        have := RowIn.start HRr.out hib rfl hb5 HWR.out
        rw [HMM.out] at this
        exact this
      have hgl5 : gw < w5.heap.size := by have := hb5.size; omega
      have HB6 : Hid (Below w3.heap.size w3 (w5.setCell ⟨gw, i, none⟩ (.slice (some ⟨wr.heap.size, 0, none⟩) m m))) := (below_step HBr.out hb5).setCell (by exact Nat.le_of_eq HGW.out) _
      have HSG : Hid (gw < wr.heap.size) := hgl
      obtain ⟨g', hg'⟩ : ∃ x, wr.heap.size = x := ⟨_, rfl⟩
      rw [hg'] at HIN HB6 HSG ⊢
      clear hown hgrow hb5 HWR hgl hg' HRr
      go_wp2_with fail
      obtain ⟨V6, hV6⟩ : ∃ V, w5.setCell ⟨gw, i, none⟩ (.slice (some ⟨g', 0, none⟩) m m) = V := ⟨_, rfl⟩
      rw [hV6] at HIN HB6 ⊢
      obtain ⟨gs', X', hgs, hin6⟩ := HIN.out
      have HIN6 := hide hin6
      have HGS := hide hgs
      clear hV6 z0 z1 HIN hin6 hgs
      go_loopw [13, 15] (fun t13 t15 wr => ∃ (k : Nat) (X : Nat → Nat → List Int), k ≤ (eo es l v).length ∧ t15 = .int .i64 k ∧ t13 = .int .i64 (usT es l br i + usX es l v k : Nat) ∧ Hid (Below w3.heap.size w3 wr) ∧ Hid (RowIn es l br gw gw i k gs' X wr)) (fun _ t15 _ => (eo es l v).length - (intOf t15).toNat)
      case atStart => exact ⟨0, X', by omega, rfl, rfl, HB6.out, HIN6.out⟩
      case round =>
        obtain ⟨k, X, hk, rfl, rfl, HBk, HRk⟩ := hrel
        clear HIN6 HB6
        obtain ⟨ar, cr, hrow⟩ := HROW.out v hvn
        obtain ⟨⟨q0, q1⟩, hnb⟩ := HCL.out wr HBk.out
        have b0 := hnb i hib
        rw [HVE.out] at b0
        obtain ⟨r0, r1⟩ := hrow wr HBk.out
        have k1 : (v : Int) < n := by omega
        by_cases hkl : k < (eo es l v).length
        · have j2 : (k : Int) < (eo es l v).length := by omega
          obtain ⟨ba, oa, rfl, hLa⟩ : ∃ b1 off, ar = some ⟨b1, off, none⟩ ∧ ILies wr b1 off (eo es l v) := by
            rcases r1 with e | e
            · rw [e] at hkl; simp at hkl
            · exact e
          obtain ⟨hql, hqf, hqe⟩ := HQ.out v k hkl
          obtain ⟨j0, hj0, hje, hjn⟩ := HEBR.out v k HVB.out hkl
          obtain ⟨z, hzl, hh, hzh, hhl, hzt⟩ := HLAST.out _ hql
          have hzle := HLE.out (qE es l v k)
          have hLk := hLa k hkl
          rw [hqe] at hLk
          have HUX : Hid (usX es l v (k + 1) = usX es l v k + if i < j0 then z + 1 else 0) := by
            show _ = _
            have hlt : (v : Int) < endI (pick es l) (qE es l v k) ↔ i < j0 := by
              have hp := List.pairwise_iff_getElem.1 HRI.out
              have gi : br[i] = iat br i := by unfold iat; rw [List.getD_eq_getElem?_getD, List.getElem?_eq_getElem hib]; rfl
              have gj : br[j0] = iat br j0 := by unfold iat; rw [List.getD_eq_getElem?_getD, List.getElem?_eq_getElem hj0]; rfl
              have hje' : iat br j0 = endI (pick es l) (qE es l v k) := hje
              have hvi := HVE.out
              constructor
              · intro h1
                rcases Nat.lt_trichotomy i j0 with h2 | h2 | h2
                · exact h2
                · rw [← h2, hvi] at hje'; omega
                · have := hp j0 i hj0 hib h2; rw [gi, gj] at this; omega
              · intro h1
                have := hp i j0 hib hj0 h1; rw [gi, gj] at this; omega
            have hzl' : (folL (pick es l) (qE es l v k)).length = z + 1 := by rw [← foE_length es l, hzl]
            rw [usX_succ]
            unfold phE
            by_cases h1 : i < j0
            · rw [if_pos h1, if_pos (hlt.2 h1), hzl']
            · rw [if_neg h1, if_neg fun h2 => h1 (hlt.1 h2)]
          have hux : usX es l v k ≤ 50000 := by
            have h1 := usX_le (es := es) (l := l) v k
            have h2 : k * (2 * l.length + 1) ≤ 4 * (2 * l.length + 1) := Nat.mul_le_mul_right _ (by omega)
            omega
          have HST : Hid (∀ V b c, IHas V (some ⟨b, 0, none⟩) (foE es l (qE es l v k)) → z + 1 ≤ c → (b ≠ gs' i ∧ gw ≤ b) → X i j0 = [] → j0 ≠ i → RowIn es l br gw gw i k gs' X V → ∃ X', RowIn es l br gw gw i (k + 1) gs' X' (V.setCell ⟨g', j0, none⟩ (.slice (some ⟨b, 0, none⟩) (z + 1) c))) := fun V b c h1 h2 h3 h4 h5 h6 => by
            have hve : (iat br i).toNat = v := by rw [HVE.out, Int.toNat_natCast]
            have := h6.step (b := b) (c := c) HND.out hj0 hib h5 (by rw [hve]; exact hje) (by rw [hve, HVE.out]) h4 (by rw [hve]; exact h1) (by rw [hve, hzl]; unfold maxLen; omega) (by rw [hve, hzl]; exact h2) h3.1 h3.2
            rw [hve, hzl, HGS.out] at this
            exact this
          have HBAD1 : Hid (j0 = i → ¬ okS n (pick es l)) := fun e => HNO.out (HOWN.out v k HVB.out hkl (by rw [← hje, e]; exact HVE.out))
          have HBAD2 : Hid (X i j0 ≠ [] → ¬ okS n (pick es l)) := fun e => by
            have h1 := HRk.out.cur j0 hj0
            have hve : (iat br i).toNat = v := by rw [HVE.out, Int.toNat_natCast]
            rw [hve] at h1
            rw [h1] at e
            obtain ⟨a, ha, e2⟩ := rwX_ne k e
            exact HNO.out (HTWO.out v a k HVB.out ha hkl (by rw [← e2]; exact hje))
          have HCEL : Hid (∀ V, Below wr.heap.size wr V → (V.cell? ⟨gw, i, none⟩ = some (.slice (some ⟨g', 0, none⟩) m m) ∧ V.frozen? ⟨gw, i, none⟩ = false) ∧ ((X i j0 = [] ∧ V.cell? ⟨g', j0, none⟩ = some (.slice none 0 0) ∧ V.frozen? ⟨g', j0, none⟩ = false) ∨ (X i j0 ≠ [] ∧ ∃ ad ml c, V.cell? ⟨g', j0, none⟩ = some (.slice (some ad) ml c)))) := fun V hV => by
            have h1 := HRk.out.later hV
            obtain ⟨e1, e2⟩ := h1.wy.cell (j := i) hib
            rw [if_pos (by omega), HGS.out, HMM.out] at e1
            refine ⟨⟨e1, e2⟩, ?_⟩
            have hr := h1.wy.row i (by omega)
            rw [HGS.out] at hr
            rcases hr.look (x := j0) hj0 with ⟨a1, a2⟩ | ⟨a1, ad, c, a2, _⟩
            · exact Or.inl ⟨a1, a2, (hr.cellS hj0).2⟩
            · exact Or.inr ⟨a1, ad, _, c, a2⟩
          have C3 := hide (FW.out wr.drew (qE es l v k) (below_step HBk.out (below_drew _)) hql (by rw [hqf, Int.toNat_natCast]; exact HV2.out))
          have HS : Hid (∀ V, Below w3.heap.size w3 V → V.cell? ⟨kb, 0, none⟩ = some (.int .i64 n) ∧ V.cell? ⟨kb, 1, none⟩ = some (.slice p es.length cp) ∧ V.cell? ⟨bb, ob + i, none⟩ = some (.int .i64 v) ∧ V.cell? ⟨go, v, none⟩ = some (.slice (some ⟨ba, oa, none⟩) (eo es l v).length cr) ∧ V.cell? ⟨ba, oa + k, none⟩ = some (.int .i64 (rnN l (qE es l v k) : Nat))) := fun V hV => by
            obtain ⟨⟨q0, q1⟩, hnb⟩ := HCL.out V hV
            have b0 := hnb i hib
            rw [HVE.out] at b0
            refine ⟨q0, q1, b0, (hrow V hV).1, ?_⟩
            rcases (hrow V hV).2 with e | ⟨b', o', e, hL'⟩
            · rw [e] at hkl; simp at hkl
            · cases e
              have := hL' k hkl
              rw [hqe] at this
              exact this
          obtain ⟨en, hen⟩ : ∃ x, endI (pick es l) (qE es l v k) = x := ⟨_, rfl⟩
          have hje' : iat br j0 = en := by rw [← hen]; exact hje
          have HJN : Hid (∀ a, a < j0 → iat br a ≠ en) := fun a ha e => hjn a ha (by rw [e, ← hen])
          have hzt' : toL es hh = en := by rw [hzt, hen]
          have HUY : Hid (usT es l br i + usX es l v (k + 1) = (usT es l br i + usX es l v k) + if i < j0 then z + 1 else 0) := by show _ = _; rw [HUX.out, Nat.add_assoc]
          obtain ⟨L, hL⟩ : ∃ x, foE es l (qE es l v k) = x := ⟨_, rfl⟩
          rw [hL] at C3 hzl hzh HST hzle
          rw [hzl] at C3 hzle
          have HLL := hide hzl
          obtain ⟨rq, hrq⟩ : ∃ x, rnN l (qE es l v k) = x := ⟨_, rfl⟩
          rw [hrq] at C3 HS
          obtain ⟨U, hU⟩ : ∃ x, usT es l br i + usX es l v k = x := ⟨_, rfl⟩
          have hUl : U ≤ 250000 := by omega
          rw [hU] at HUY ⊢
          obtain ⟨dg, hdg⟩ : ∃ x, (eo es l v).length = x := ⟨_, rfl⟩
          have HDG := hide hdg
          rw [hdg] at HS r0 hkl j2 hk hv4
          try rw [hdg]
          obtain ⟨V0, hV0⟩ : ∃ V, V = wr.drew := ⟨_, rfl⟩
          have hbd : Below wr.heap.size wr V0 := by rw [hV0]; exact below_drew _
          have HW0 := hide hbd
          have HX0 := hide (below_step HBk.out hbd)
          have HY0 := hide (HRk.out.later hbd)
          rw [← hV0] at C3
          have r0 := (HS.out wr HBk.out).2.2.2.1
          clear hje hjn hzt hen hL hrq hU hdg hrow hLa hLk hqe hql hqf hux hut HUX hnb hbd r1
          go_upto_region 16 with fail
          refine wp_region_held_drew (S := (fun V => V.cell? ⟨kb, 0, none⟩ = some (.int .i64 n) ∧ V.cell? ⟨kb, 1, none⟩ = some (.slice p es.length cp) ∧ V.cell? ⟨bb, ob + i, none⟩ = some (.int .i64 v) ∧ V.cell? ⟨go, v, none⟩ = some (.slice (some ⟨ba, oa, none⟩) dg cr) ∧ V.cell? ⟨ba, oa + k, none⟩ = some (.int .i64 rq))) (by kernel_rfl) (by rw [← hV0]; exact HS.out _ HX0.out) (fun hHeld => ?_)
          rw [← hV0] at hHeld ⊢
          clear hV0 q0 q1 b0 r0
          obtain ⟨s0, s1, s2, s3, s4⟩ := HS.out _ HX0.out
          refine wpAnyH_take (i := 0) (v := ?v1) rfl (by kernel_rfl) (by kernel_rfl) (by kernel_rfl) (fun _ _ _ h => h) (Or.inl ⟨by rfl, ?hy1⟩) (by assumption) ?rest1
          case hy1 => (intro w hSw; (try dsimp only at hSw); go_simp; try with_reducible rfl)
          try simp only [Act.put, List.getElem_toArray, List.getElem_cons_zero, List.setIfInBounds_toArray, List.set_cons_zero, List.set_cons_succ]
          refine wpAnyH_take (i := 1) (v := ?v2) rfl (by kernel_rfl) (by kernel_rfl) (by kernel_rfl) (fun _ _ _ h => h) (Or.inl ⟨by rfl, ?hy2⟩) (by assumption) ?rest2
          case hy2 => (intro w hSw; (try dsimp only at hSw); go_simp; try with_reducible rfl)
          try simp only [Act.put, List.getElem_toArray, List.getElem_cons_zero, List.getElem_cons_succ, List.setIfInBounds_toArray, List.set_cons_zero, List.set_cons_succ]
          refine wpAnyH_take (i := 2) (v := ?v3) rfl (by kernel_rfl) (by kernel_rfl) (by kernel_rfl) (fun _ _ _ h => h) (Or.inl ⟨by rfl, ?hy3⟩) (by assumption) ?rest3
          case hy3 => (intro w hSw; (try dsimp only at hSw); go_simp; try with_reducible rfl)
          try simp only [Act.put, List.getElem_toArray, List.getElem_cons_zero, List.getElem_cons_succ, List.setIfInBounds_toArray, List.set_cons_zero, List.set_cons_succ]
          refine wpAnyH_take (i := 3) (v := ?v4) rfl (by kernel_rfl) (by kernel_rfl) (by kernel_rfl) (fun _ _ _ h => h) (Or.inl ⟨by rfl, ?hy4⟩) (by assumption) ?rest4
          case hy4 => (intro w hSw; (try dsimp only at hSw); go_simp; try with_reducible rfl)
          try simp only [Act.put, List.getElem_toArray, List.getElem_cons_zero, List.getElem_cons_succ, List.setIfInBounds_toArray, List.set_cons_zero, List.set_cons_succ]
          refine wpAnyH_take (i := 4) (v := ?v5) rfl (by kernel_rfl) (by kernel_rfl) (by kernel_rfl) (fun _ _ _ h => h) (Or.inl ⟨by rfl, ?hy5⟩) (by assumption) ?rest5
          case hy5 => (intro w hSw; (try dsimp only at hSw); go_simp; try with_reducible rfl)
          try simp only [Act.put, List.getElem_toArray, List.getElem_cons_zero, List.getElem_cons_succ, List.setIfInBounds_toArray, List.set_cons_zero, List.set_cons_succ]
          refine wpAnyH_take (i := 5) (v := ?v6) rfl (by kernel_rfl) (by kernel_rfl) (by kernel_rfl) (fun _ _ _ h => h) (Or.inl ⟨by rfl, ?hy6⟩) (by assumption) ?rest6
          case hy6 => (intro w hSw; (try dsimp only at hSw); go_simp; try with_reducible rfl)
          try simp only [Act.put, List.getElem_toArray, List.getElem_cons_zero, List.getElem_cons_succ, List.setIfInBounds_toArray, List.set_cons_zero, List.set_cons_succ]
          refine wpAnyH_take (i := 6) (v := ?v7) rfl (by kernel_rfl) (by kernel_rfl) (by kernel_rfl) (fun _ _ _ h => h) (Or.inl ⟨by rfl, ?hy7⟩) (by assumption) ?rest7
          case hy7 => (intro w hSw; (try dsimp only at hSw); go_simp; try with_reducible rfl)
          try simp only [Act.put, List.getElem_toArray, List.getElem_cons_zero, List.getElem_cons_succ, List.setIfInBounds_toArray, List.set_cons_zero, List.set_cons_succ]
          refine wpAnyH_take (i := 7) (v := ?v8) rfl (by kernel_rfl) (by kernel_rfl) (by kernel_rfl) (fun _ _ _ h => h) (Or.inl ⟨by rfl, ?hy8⟩) (by assumption) ?rest8
          case hy8 => (intro w hSw; (try dsimp only at hSw); go_simp; try with_reducible rfl)
          try simp only [Act.put, List.getElem_toArray, List.getElem_cons_zero, List.getElem_cons_succ, List.setIfInBounds_toArray, List.set_cons_zero, List.set_cons_succ]
          refine wpAnyH_take (i := 8) (v := ?v9) rfl (by kernel_rfl) (by kernel_rfl) (by kernel_rfl) (fun _ _ _ h => h) (Or.inl ⟨by rfl, ?hy9⟩) (by assumption) ?rest9
          case hy9 => (intro w hSw; (try dsimp only at hSw); go_simp; try with_reducible rfl)
          try simp only [Act.put, List.getElem_toArray, List.getElem_cons_zero, List.getElem_cons_succ, List.setIfInBounds_toArray, List.set_cons_zero, List.set_cons_succ]
          refine wpAnyH_take (i := 9) (v := ?v10) rfl (by kernel_rfl) (by kernel_rfl) (by kernel_rfl) (fun _ _ _ h => h) (Or.inl ⟨by rfl, ?hy10⟩) (by assumption) ?rest10
          case hy10 => (intro w hSw; (try dsimp only at hSw); go_simp; try with_reducible rfl)
          try simp only [Act.put, List.getElem_toArray, List.getElem_cons_zero, List.getElem_cons_succ, List.setIfInBounds_toArray, List.set_cons_zero, List.set_cons_succ]
          refine wpAnyH_take (i := 10) (v := ?v11) rfl (by kernel_rfl) (by kernel_rfl) (by kernel_rfl) (fun _ _ _ h => h) (Or.inl ⟨by rfl, ?hy11⟩) (by assumption) ?rest11
          case hy11 => (intro w hSw; (try dsimp only at hSw); go_simp; try with_reducible rfl)
          try simp only [Act.put, List.getElem_toArray, List.getElem_cons_zero, List.getElem_cons_succ, List.setIfInBounds_toArray, List.set_cons_zero, List.set_cons_succ]
          refine wpAnyH_take (i := 11) (v := ?v12) rfl (by kernel_rfl) (by kernel_rfl) (by kernel_rfl) (fun _ _ _ h => h) (Or.inl ⟨by rfl, ?hy12⟩) (by assumption) ?rest12
          case hy12 => (intro w hSw; (try dsimp only at hSw); go_simp; try with_reducible rfl)
          try simp only [Act.put, List.getElem_toArray, List.getElem_cons_zero, List.getElem_cons_succ, List.setIfInBounds_toArray, List.set_cons_zero, List.set_cons_succ]
          refine wpAnyH_take (i := 12) (v := ?v13) rfl (by kernel_rfl) (by kernel_rfl) (by kernel_rfl) (fun _ _ _ h => h) (Or.inl ⟨by rfl, ?hy13⟩) (by assumption) ?rest13
          case hy13 => (intro w hSw; (try dsimp only at hSw); go_simp; try with_reducible rfl)
          try simp only [Act.put, List.getElem_toArray, List.getElem_cons_zero, List.getElem_cons_succ, List.setIfInBounds_toArray, List.set_cons_zero, List.set_cons_succ]
          refine wpAnyH_ready (rs := [13]) (by kernel_rfl) (by simp) ?_
          refine AllReadyH.cons rfl (fun K hK => ?_) ?_
          · clear hHeld
            go_simp
            refine C3.out.mono ?_
            rintro e V1 ⟨gp, cq, rfl, ho, hb2⟩
            have HX1 := hide (below_step HX0.out hb2)
            have HOL := hide ho
            have HY1 := hide (HY0.out.later hb2)
            have HVV : Hid (V0.heap.size ≤ V1.heap.size) := hb2.size
            have HWV := hide (below_step HW0.out hb2)
            clear C3 ho hb2 s0 s1 s2 s3 s4
            obtain ⟨s0, s1, s2, s3, s4⟩ := HS.out _ HX1.out
            refine hK.out _ _ (by exact HS.out _ HX1.out) (fun hHeld => ?_)
            clear hK K
            try simp only [Act.put, List.getElem_toArray, List.getElem_cons_zero, List.getElem_cons_succ, List.setIfInBounds_toArray, List.set_cons_zero, List.set_cons_succ]
            refine wpAnyH_take (i := 14) (v := ?v14) rfl (by kernel_rfl) (by kernel_rfl) (by kernel_rfl) (fun _ _ _ h => h) (Or.inl ⟨by rfl, ?hy14⟩) (by assumption) ?rest14
            case hy14 => (intro w hSw; (try dsimp only at hSw); go_simp; try with_reducible rfl)
            try simp only [Act.put, List.getElem_toArray, List.getElem_cons_zero, List.getElem_cons_succ, List.setIfInBounds_toArray, List.set_cons_zero, List.set_cons_succ]
            refine wpAnyH_done (by kernel_rfl) ?_ _
            clear hHeld
            go_wp2_with fail
            go_loopw [17] (fun t17 wj => ∃ j : Nat, j ≤ j0 ∧ t17 = .int .i64 j ∧ Hid (Below V1.heap.size V1 wj)) (fun t17 _ => m - (intOf t17).toNat)
            case atStart => exact ⟨0, by omega, rfl, Below.refl _ _⟩
            case round =>
              obtain ⟨j, hj, rfl, HBj⟩ := hrel
              have HBJ := hide (below_step HX1.out HBj.out)
              have hmb := HMM.out
              obtain ⟨⟨q0, q1⟩, hnb⟩ := HCL.out wr HBJ.out
              have b0 := hnb j (by omega)
              have x0 : wr.cell? ⟨gp, z, none⟩ = some (.int .i64 hh) := by
                rcases iowns_has HOL.out with e | ⟨b', o', e, hL'⟩
                · have := HLL.out; rw [e] at this; simp at this
                · cases e
                  have := later HBj.out (hL' z (by rw [HLL.out]; omega))
                  rw [Nat.zero_add, hzh] at this
                  exact this
              have CC : ∀ dd os, Calls Try.prog 36 #[nv n p es.length cp, .int .i64 hh] (grow (redrawn wr dd) os) fun e w'' => e = .returned (.int .i64 (toL es hh)) ∧ ∃ pp : Regrown, w'' = grow (redrawn wr pp.d) pp.os := fun dd os => Calls.regrown_of (TC.out _ hh (below_step HBJ.out (below_regrown wr dd os)) hhl)
              rw [hzt'] at CC
              have jl : (j : Int) < m := by omega
              have jz0 : (0 : Int) ≤ (z : Int) := by omega
              have jz1 : (z : Int) < (z : Int) + 1 := by omega
              have jw : IntKind.i64.wrap (z : Int) = z := by rw [IntKind.wrap_i64]; omega
              have g0 := cell_regrown q0
              have g1 := cell_regrown q1
              have g3 := cell_regrown x0
              by_cases hjj : j = j0
              · subst hjj
                rw [hje'] at b0
                have g2 := cell_regrown b0
                clear hnb
                go_upto_region 18 with fail
                refine wp_region_quiet_below (by kernel_rfl) (by kernel_rfl) ?_
                repeat (go_big_quiet_step (with_reducible exact CC _ _))
                refine wpQuiet_nil ?_
                intro x1 hw'
                have hbx1 : Below wr.heap.size wr x1 := by
                  obtain ⟨⟨dq, osq⟩, hw''⟩ := hw'
                  rw [hw'']
                  exact below_regrown wr dq osq
                have HBX := hide (below_step HBj.out hbx1)
                have HBW := hide (below_step HBJ.out hbx1)
                have HEX := hide (below_step HBQ.out (below_step HBJ.out hbx1))
                clear hw' hbx1 g0 g1 g2 g3 CC q0 q1 b0 x0
                obtain ⟨⟨c0, c1⟩, lk⟩ := HCEL.out x1 (below_step HWV.out HBX.out)
                have e1 : ((j : Int) == (m : Int)) = false := by rw [beq_eq_false_iff_ne]; omega
                by_cases hji : j = i
                · have HZ := hide (HBAD1.out hji)
                  subst hji
                  go_wp2
                  go_ret3
                  exact ⟨Or.inl ⟨HZ.out, rfl⟩, HEX.out⟩
                · have e2 : ((j : Int) == (i : Int)) = false := by rw [beq_eq_false_iff_ne]; omega
                  rcases lk with ⟨hz, d0, d1⟩ | ⟨hnz, ad, ml, c, d0⟩
                  · have nn := neq25n x1
                    obtain ⟨X'', hX''⟩ := HST.out x1 gp cq (iowns_has (HOL.out.later HBX.out)) (by obtain ⟨p8, c8, h8, _, hcap, _⟩ := HOL.out.form; injection h8 with _ _ h83; rw [h83, ← HLL.out]; exact hcap) (by have h1 := (HY0.out.wy.row i (by omega)).lt; have h2 := (World.ownsRow.lt HOL.out gp rfl).1; exact ⟨by omega, by omega⟩) hz hji (HY1.out.later HBX.out)
                    have HXX := hide hX''
                    have HBS : Hid (Below w3.heap.size w3 (x1.setCell ⟨g', j, none⟩ (.slice (some ⟨gp, 0, none⟩) (z + 1) cq))) := HBW.out.setCell (by show _ ≤ g'; have h1 := HSG.out; have h2 := HGW.out; omega) _
                    clear hz hX''
                    by_cases hij : i < j
                    · have hij' : (i : Int) < j := by omega
                      rw [if_pos hij] at HUY
                      go_wp2
                      go_roundw
                      case rel => exact ⟨k + 1, X'', by have := HDG.out; omega, by go_num, by rw [HUY.out]; go_num, HBS.out, HXX.out⟩
                      case measure => have := HDG.out; simp [intOf]; omega
                    · have hij' : ¬ (i : Int) < j := by omega
                      rw [if_neg hij] at HUY
                      go_wp2
                      go_roundw
                      case rel => exact ⟨k + 1, X'', by have := HDG.out; omega, by go_num, by rw [HUY.out]; go_num, HBS.out, HXX.out⟩
                      case measure => have := HDG.out; simp [intOf]; omega
                  · have HZ := hide (HBAD2.out hnz)
                    have nn := neq25s x1 ad ml c
                    go_wp2
                    go_ret3
                    exact ⟨Or.inl ⟨HZ.out, rfl⟩, HEX.out⟩
              · have hjl : j < j0 := by omega
                have hyn := HJN.out j hjl
                obtain ⟨y, hy⟩ : ∃ y, iat br j = y := ⟨_, rfl⟩
                rw [hy] at b0 hyn
                have yb : (y == en) = false := by rw [beq_eq_false_iff_ne]; exact hyn
                have g2 := cell_regrown b0
                clear hnb hy
                go_upto_region 18 with fail
                refine wp_region_quiet_below (by kernel_rfl) (by kernel_rfl) ?_
                repeat (go_big_quiet_step (with_reducible exact CC _ _))
                refine wpQuiet_nil ?_
                intro x1 hw'
                have hbx1 : Below wr.heap.size wr x1 := by
                  obtain ⟨⟨dq, osq⟩, hw''⟩ := hw'
                  rw [hw'']
                  exact below_regrown wr dq osq
                have HBX := hide (below_step HBj.out hbx1)
                clear hw' hbx1 g0 g1 g2 g3 CC q0 q1 b0 x0
                go_wp2
                go_roundw
                case rel => exact ⟨j + 1, by omega, by go_num, HBX.out⟩
                case measure => simp [intOf]; omega
          exact AllReadyH.nil
        · have hke : k = (eo es l v).length := by omega
          have j2 : ¬ (k : Int) < (eo es l v).length := by omega
          have hve : (iat br i).toNat = v := by rw [HVE.out, Int.toNat_natCast]
          have HDN : Hid (RowOut es l br gw gw (i + 1) gs' X wr) := by
            have := HRk.out
            rw [hke, ← hve] at this
            exact this.done
          have HUZ : Hid (usT es l br i + usX es l v k = usT es l br (i + 1)) := by show _ = _; rw [HUS.out, hke]
          obtain ⟨dg, hdg⟩ : ∃ x, (eo es l v).length = x := ⟨_, rfl⟩
          rw [hdg] at r0 j2
          try rw [hdg]
          clear hke hve hdg r1 hrow hk hnb
          go_wp2
          go_roundw
          case rel => exact ⟨i + 1, gs', X, by omega, by go_num, by rw [HUZ.out], HBk.out, HDN.out⟩
          case measure => simp [intOf]; omega
    · have hie : i = m := by omega
      have j1 : ¬ (i : Int) < m := by omega
      rw [hie] at HRr ⊢
      rw [hie] at j1
      clear hie hi him
      obtain ⟨W6, hW6⟩ : ∃ V, wr = V := ⟨_, rfl⟩
      rw [hW6] at HBr HRr ⊢
      have HE6 := hide (below_step HBQ.out HBr.out)
      have HBR6 := hide HBr.out
      have HG : Hid (RG n (pick es l)) := rg_of HSUB.out (by rw [HBRE.out]; exact fun a ha => HRr.out.gd a (by rw [← HMM.out]; exact ha))
      have HKN : Hid (kdS n (pick es l) ≠ 0) := by show _ ≠ _; rw [HKD.out]; exact HK0.out
      have HUF : Hid (usT es l br m = usS n (pick es l)) := by
        have := usT_full HSUB.out HKN.out HG.out
        rw [HBRE.out, HMM.out] at this
        exact this
      have HXX : Hid (∀ i j, i < m → j < m → X i j = (wyS n (pick es l) ⟨iat br i, iat br j⟩).map (rnI l)) := fun i j hi hj => by
        obtain ⟨v, hv, _, hvb, _⟩ := HBRF.out i (by rw [HMM.out]; exact hi)
        rw [HRr.out.old i hi j (by rw [HMM.out]; exact hj), hv, Int.toNat_natCast]
        exact row_is HSUB.out HG.out (by rw [HBRE.out]; exact hvb) br j
      have HWY : Hid (Wy W6 gw gw m m gs X) := by have := HRr.out.wy; rw [HMM.out] at this; exact this
      obtain ⟨U, hU⟩ : ∃ x, usT es l br m = x := ⟨_, rfl⟩
      rw [hU] at HUF ⊢
      clear hW6 HRr hU
      by_cases hus : U = l.length
      rotate_left
      · have HZ : Hid (¬ okS n (pick es l)) := fun h => hus (by rw [HUF.out, (ok_us HMP.out h).2, HPL.out])
        have u0 : ((U : Int) == (l.length : Int)) = false := by rw [beq_eq_false_iff_ne]; omega
        go_wp2
        go_ret3
        exact ⟨Or.inl ⟨HZ.out, rfl⟩, HE6.out⟩
      have HUL : Hid (usS n (pick es l) = (pick es l).length) := by show _ = _; rw [← HUF.out, HPL.out, hus]
      rw [hus]
      clear hus HUF
      rcases HLEN.out with hk | ⟨hk, hm5⟩ | ⟨hk, hm6⟩
      · exact absurd hk HK0.out
      · have HKK : Hid (kdS n (pick es l) = 5) := by show _ = _; rw [HKD.out, hk]
        have HOK : Hid (okS n (pick es l)) := (ok_five HMP.out HKK.out HG.out).2 HUL.out
        have HPT : Hid (p5F X 5 6 = ptR n es l) := p5F_all HKK.out fun i j hi hj => by rw [HBRE.out]; exact HXX.out i j (by omega) (by omega)
        have HBS : Hid (bsS n (pick es l) = br) := by show _ = _; rw [bs_five HKK.out, HBRE.out]
        have HW5 : Hid (∀ i j, i < m → j < m → ∃ a c, (∀ V, Below W6.heap.size W6 V → V.cell? ⟨gw, i, none⟩ = some (.slice (some ⟨gs i, 0, none⟩) m m) ∧ V.cell? ⟨gs i, j, none⟩ = some (.slice a (X i j).length c)) ∧ PSl gw W6 (.slice a (X i j).length c) (X i j)) := fun i j hi hj => by
          have c0 := (HWY.out.cell (j := i) hi).1
          rw [if_pos hi] at c0
          obtain ⟨a, c, c1, c2⟩ := (HWY.out.row i hi).psl hj
          exact ⟨a, c, fun V hV => ⟨later hV c0, later hV c1⟩, c2⟩
        have S0 : Hid (SB gw W6 W6 (.slice none 0 0) (p5F X 0 (0 + 1)) (fun _ => .slice none 0 0)) := SB.nil gw W6
        have HP0 : Hid ((p5F X 0 (0 + 1)).length = 0) := rfl
        have k5 : (kd == 5) = true := by rw [beq_iff_eq]; exact hk
        have HM5 := hide hm5
        have hm6 : m ≤ 6 := by omega
        clear HLEN hm56 k0 hk hm5
        go_wp2_with fail
        go_loopw [18, 19] (fun t18 t19 wr => ∃ (i : Nat) (p : Option Addr) (c : Nat) (rv : Nat → Value), i ≤ m ∧ t19 = .int .i64 i ∧ t18 = .slice p (p5F X i (i + 1)).length c ∧ Hid (Below W6.heap.size W6 wr) ∧ Hid (SB gw W6 wr (.slice p (p5F X i (i + 1)).length c) (p5F X i (i + 1)) rv)) (fun _ t19 _ => m - (intOf t19).toNat)
        case atStart => exact ⟨0, none, 0, _, by omega, rfl, rfl, Below.refl _ _, S0.out⟩
        case round =>
          obtain ⟨i, p', c', rv, hi, rfl, rfl, HBr, HSr⟩ := hrel
          clear S0 HP0
          by_cases him : i < m
          · have j1 : (i : Int) < m := by omega
            obtain ⟨F, hF⟩ : ∃ x, p5F X i (i + 1) = x := ⟨_, rfl⟩
            have HF := hide hF
            rw [hF] at HSr ⊢
            clear hF
            go_wp2_with fail
            go_loopw [18, 20] (fun t18 t20 wr => ∃ (k : Nat) (p : Option Addr) (c : Nat) (rv : Nat → Value), i < k ∧ k ≤ m ∧ t20 = .int .i64 k ∧ t18 = .slice p (p5F X i k).length c ∧ Hid (Below W6.heap.size W6 wr) ∧ Hid (SB gw W6 wr (.slice p (p5F X i k).length c) (p5F X i k) rv)) (fun _ t20 _ => m - (intOf t20).toNat)
            case atStart => exact ⟨i + 1, p', c', rv, by omega, by omega, by go_num, by rw [HF.out], HBr.out, by show SB _ _ _ _ _ _; rw [HF.out]; exact HSr.out⟩
            case round =>
              obtain ⟨k, p', c', rv, hik, hk, rfl, rfl, HBk, HSk⟩ := hrel
              clear HSr HF
              by_cases hkm : k < m
              · have j2 : (k : Int) < m := by omega
                obtain ⟨a, c, hcc, hps⟩ := HW5.out i k him hkm
                obtain ⟨c0, c1⟩ := hcc wr HBk.out
                have HPF : Hid (p5F X i (k + 1) = p5F X i k ++ [X i k]) := p5F_step X (by have := HM5.out; omega) (by have := HM5.out; omega) hik
                have hPL : (p5F X i k).length ≤ 100 := by
                  unfold p5F
                  rw [List.length_map]
                  exact j5_short i k (by have := HM5.out; omega) (by have := HM5.out; omega)
                obtain ⟨p8, c8, D, ea, sb, hbE⟩ := HSk.out.push HBk.out hps (by omega)
                rw [← HPF.out] at sb
                have HLN : Hid ((p5F X i (k + 1)).length = (p5F X i k).length + 1) := by show _ = _; rw [HPF.out]; simp
                have HX2 := hide hbE
                have HY2 := hide sb
                obtain ⟨ml, hml⟩ : ∃ x, (X i k).length = x := ⟨_, rfl⟩
                rw [hml] at c1 ea
                obtain ⟨pl, hpl⟩ : ∃ x, (p5F X i k).length = x := ⟨_, rfl⟩
                rw [hpl] at ea HY2 HLN ⊢
                clear hml hpl hps hcc sb hbE hPL
                go_wp2_with (at_builtin; refine wpList_run_append rfl (.tmp 144) (.tmp 152) 30 rfl 30 rfl _ _ _ D rfl rfl ea ?_)
                go_roundw
                case rel => exact ⟨k + 1, p8, c8, _, by omega, by omega, by go_num, by rw [HLN.out], HX2.out, by show SB _ _ _ _ _ _; rw [HLN.out]; exact HY2.out⟩
                case measure => simp [intOf]; omega
              · have hke : k = m := by omega
                have j2 : ¬ (k : Int) < m := by omega
                have HNX : Hid (p5F X i k = p5F X (i + 1) (i + 1 + 1)) := by show _ = _; rw [hke, HM5.out]; exact p5F_next X (by have := HM5.out; omega)
                clear hke
                go_wp2
                go_roundw
                case rel => exact ⟨i + 1, p', c', rv, by omega, by go_num, by rw [HNX.out], HBk.out, by show SB _ _ _ _ _ _; rw [← HNX.out]; exact HSk.out⟩
                case measure => simp [intOf]; omega
          · have hie : i = m := by omega
            have j1 : ¬ (i : Int) < m := by omega
            have HFI : Hid (p5F X i (i + 1) = ptR n es l) := by show _ = _; rw [hie, HM5.out]; exact HPT.out
            have HPP : Hid (RHasB w.heap.size wr p' (ptR n es l)) := by
              have := HSr.out
              rw [HFI.out] at this
              exact (this.has HBr.out (by have h1 := HGW.out; have h2 := HBR6.out.size; omega)).base (by have h1 := HGW.out; have h2 := HBQ.out.size; omega)
            have HE := hide (below_step HE6.out HBr.out)
            have HBN : Hid (IHasB w.heap.size wr (some ⟨bb, ob, none⟩) br) := ⟨Or.inr ⟨bb, ob, rfl, fun j hj => (HCL.out wr (below_step HBR6.out HBr.out)).2 j hj⟩, fun _ a e => by injection e with e; rw [← e]; exact HBL2.out⟩
            have HLL : Hid (m = br.length) := HMM.out.symm
            clear hie HSr
            go_wp2
            go_ret3
            exact ⟨Or.inr ⟨HOK.out, some ⟨bb, ob, none⟩, cb, p', c', by rw [HKK.out, HBS.out, HFI.out, HLL.out]; rfl, by rw [HBS.out]; exact HBN.out, HPP.out⟩, HE.out⟩
      · have HKK : Hid (kdS n (pick es l) = 33) := by show _ = _; rw [HKD.out, hk]
        obtain ⟨t0, t3, tn, tp, ta⟩ := six_sides HSUB.out HKK.out HG.out (X := X) fun i j hi hj => by rw [HBRE.out]; exact HXX.out i j (by omega) (by omega)
        rw [HBRE.out] at tn
        have HTN := hide tn
        have HTP := hide tp
        have HTA := hide ta
        have HBN : Hid (IHas W6 (some ⟨bb, ob, none⟩) br) := Or.inr ⟨bb, ob, rfl, fun j hj => (HCL.out W6 HBr.out).2 j hj⟩
        have C37 : Hid (Calls Try.prog 37 #[.slice (some ⟨bb, ob, none⟩) m cb, .slice (some ⟨gw, 0, none⟩) m m] W6 fun e w' => SdPost gw br X e w' ∧ Below W6.heap.size W6 w') := by
          have h1 := HMM.out
          have h2 := HWY.out
          rw [hm6] at h1 h2 ⊢
          exact sides37 _ cb gw gw br gs X W6 HBN.out h1 h2 t0 t3
        have k5 : (kd == 5) = false := by rw [beq_eq_false_iff_ne]; omega
        clear t0 t3 tn tp ta HLEN hm56 k0 hk hm6
        go_wp2_with fail
        refine C37.out.mono ?_
        rintro r w7 ⟨hsd, hb7⟩
        have HE := hide (below_step HE6.out hb7)
        rcases hsd with ⟨⟨a, b, ha, hb', he⟩, rfl⟩ | ⟨hall, p', c', q', cq', rfl, hn, hr⟩
        · have HZ : Hid (¬ okS n (pick es l)) := fun h => HTA.out.1 ((ok_threes HMP.out HKK.out).1 h).1 a b ha hb' he
          clear C37 hb7 he
          go_wp2
          go_ret3
          exact ⟨Or.inl ⟨HZ.out, rfl⟩, HE.out⟩
        · have HOK : Hid (okS n (pick es l)) := (ok_threes HMP.out HKK.out).2 ⟨HTA.out.2 hall, HUL.out⟩
          have HN := hide hn
          have HR := hide hr
          have HL1 : Hid ((bsS n (pick es l)).length = 6) := by show _ = _; rw [← HTN.out, ndL_length]
          have HL2 : Hid ((ptR n es l).length = 9) := by show _ = _; rw [← HTP.out, pfF_length]
          clear C37 hb7 hall hn hr
          go_wp2
          go_ret3
          exact ⟨Or.inr ⟨HOK.out, p', c', q', cq', by rw [HKK.out, HL1.out, HL2.out]; rfl, by rw [← HTN.out]; exact HN.out.base (by have h1 := HGW.out; have h2 := HBQ.out.size; omega), by rw [← HTP.out]; exact HR.out.base (by have h1 := HGW.out; have h2 := HBQ.out.size; omega)⟩, HE.out⟩
end Go.Proofs.Ytaebbfilgfkckaa
