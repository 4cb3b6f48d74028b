/- The law's own first calls. -/
import Derived.Test.YtcgdmonejogbaaaE6
import Derived.Test.YtcgdmonejogbaaaY8
import Derived.Test.YtcgdmonejogbaaaY14
/- Pure: what rot.Sub answers is a rotation, and its genus is no greater. -/
namespace Go.Proofs.Ytcgdmonejogbaaa
open Go.RowKit Go.Sort
open Go
/-- The new numbers of edges. -/
def subT (es : List Pt) (l : List Int) : List Int := plN l es.length l.length
def subG (T : List Int) (z : Int) : Int := 2 * iat T (z.toNat / 2) + (z.toNat % 2 : Nat)
/-- A half-edge of the part, by its number in the whole. -/
def subN (l : List Int) (x : Nat) : Nat := 2 * (iat l (x / 2)).toNat + x % 2
/-- The lists of the part, as they come, not turned. -/
def subL (es : List Pt) (rs : List (List Int)) (l : List Int) : List (List Int) := (List.range rs.length).map fun v => rnL (subT es l) (lat rs v)
variable {n : Nat} {es : List Pt} {rs : List (List Int)} {l : List Int}
theorem subL_length : (subL es rs l).length = rs.length := by simp [subL]
theorem subL_at {v : Nat} (hv : v < rs.length) : lat (subL es rs l) v = rnL (subT es l) (lat rs v) := by
  have : ∀ L : List Int, lat rs v = L → lat ((List.range rs.length).map fun u => rnL (subT es l) (lat rs u)) v = rnL (subT es l) L := fun L e => by
    rw [show lat ((List.range rs.length).map fun u => rnL (subT es l) (lat rs u)) v = ((List.range rs.length).map fun u => rnL (subT es l) (lat rs u)).getD v [] from rfl, List.getD_eq_getElem?_getD, List.getElem?_map, List.getElem?_range hv, ← e]
    rfl
  exact this _ rfl
theorem rnRow_is (T L : List Int) : ∀ j, j ≤ L.length → rnRow T L j = ((L.take j).filter fun z => decide (0 ≤ iat T (z.toNat / 2))).map (subG T)
  | 0, _ => by simp [rnRow]
  | j + 1, hj => by
    unfold rnRow
    rw [rnRow_is T L j (by omega), iat_take (by omega), List.filter_append, List.map_append]
    by_cases h : 0 ≤ iat T ((iat L j).toNat / 2)
    · rw [if_pos h, List.filter_cons, if_pos (by simpa using h)]
      rfl
    · rw [if_neg h, List.filter_cons, if_neg (by simpa using h)]
      simp
theorem rnL_is (T L : List Int) : rnL T L = (L.filter fun z => decide (0 ≤ iat T (z.toNat / 2))).map (subG T) := by
  unfold rnL
  rw [rnRow_is T L _ (Nat.le_refl _), List.take_length]
/-- Where an edge that is kept went. -/
theorem kept_at (he : errL l es.length = 0) {e : Nat} (hel : e < es.length) (hk : 0 ≤ iat (subT es l) e) : ∃ k, k < l.length ∧ iat (subT es l) e = (k : Int) ∧ iat l k = (e : Int) := by
  obtain ⟨h1, h2⟩ := plN_at (errN_all _ he) e hel
  by_cases h : ∃ k, k < l.length ∧ iat l k = (e : Int)
  · obtain ⟨k, hk, e1⟩ := h
    exact ⟨k, hk, h1 k hk e1, e1⟩
  · have := h2 fun k hk e1 => h ⟨k, hk, e1⟩
    unfold subT at hk
    omega
theorem at_kept (he : errL l es.length = 0) {k : Nat} (hk : k < l.length) : (iat l k).toNat < es.length ∧ 0 ≤ iat l k ∧ iat (subT es l) (iat l k).toNat = (k : Int) := by
  have hi := (chk_zero (errN_all _ he k hk)).1
  exact ⟨by omega, hi.1, (plN_at (errN_all _ he) (iat l k).toNat (by omega)).1 k hk (by omega)⟩
/-- There and back. -/
theorem sub_back (he : errL l es.length = 0) {z : Int} (h0 : 0 ≤ z) (hz : z < 2 * es.length) (hk : 0 ≤ iat (subT es l) (z.toNat / 2)) : 0 ≤ subG (subT es l) z ∧ subG (subT es l) z < 2 * l.length ∧ subN l (subG (subT es l) z).toNat = z.toNat := by
  obtain ⟨k, hkl, e1, e2⟩ := kept_at he (e := z.toNat / 2) (by omega) hk
  unfold subG subN
  rw [e1]
  refine ⟨by omega, by omega, ?_⟩
  rw [show (2 * (k : Int) + ((z.toNat % 2 : Nat) : Int)).toNat = 2 * k + z.toNat % 2 by omega, show (2 * k + z.toNat % 2) / 2 = k by omega, e2]
  omega
theorem sub_there (he : errL l es.length = 0) {x : Nat} (hx : x < 2 * l.length) : subN l x < 2 * es.length ∧ 0 ≤ iat (subT es l) (subN l x / 2) ∧ subG (subT es l) (subN l x : Nat) = x := by
  obtain ⟨h1, h2, h3⟩ := at_kept he (k := x / 2) (by omega)
  have hd : subN l x / 2 = (iat l (x / 2)).toNat := by unfold subN; omega
  have hm : subN l x % 2 = x % 2 := by unfold subN; omega
  refine ⟨by unfold subN; omega, by rw [hd, h3]; omega, ?_⟩
  unfold subG
  rw [Int.toNat_natCast, hd, h3, hm]
  omega
theorem from_pick {x : Nat} (hx : x < 2 * l.length) : fromL (pick es l) x = fromL es (subN l x) := by
  unfold fromL
  have hd : subN l x / 2 = (iat l (x / 2)).toNat := by unfold subN; omega
  have hm : subN l x % 2 = x % 2 := by unfold subN; omega
  rw [pick_at es l (by omega), hd, hm]
theorem sub_flat : (subL es rs l).flatten = (rs.flatten.filter fun z => decide (0 ≤ iat (subT es l) (z.toNat / 2))).map (subG (subT es l)) := by
  have e : subL es rs l = rs.map fun L => (L.filter fun z => decide (0 ≤ iat (subT es l) (z.toNat / 2))).map (subG (subT es l)) := by
    refine lat_ext (by rw [subL_length]; simp) fun v hv => ?_
    rw [subL_length] at hv
    rw [subL_at hv, rnL_is]
    unfold lat
    rw [List.getD_eq_getElem?_getD, List.getD_eq_getElem?_getD, List.getElem?_map, List.getElem?_eq_getElem hv]
    rfl
  rw [e, List.filter_flatten, List.map_flatten, List.map_map]
  rfl
theorem sub_holds (he : errL l es.length = 0) (h : holdsP es rs) : holdsP (pick es l) (subL es rs l) := by
  obtain ⟨h1, h2, h3⟩ := holds_iff.1 h
  have hin : ∀ y ∈ rs.flatten, 0 ≤ y ∧ y < 2 * es.length := fun y hy => by
    obtain ⟨L, hL, hyl⟩ := List.mem_flatten.1 hy
    obtain ⟨u, hu, e⟩ := List.mem_iff_getElem.1 hL
    have := h1 u hu y (by unfold lat; rw [List.getD_eq_getElem?_getD, List.getElem?_eq_getElem hu]; simpa [e] using hyl)
    omega
  have hnd : (subL es rs l).flatten.Nodup := by
    rw [sub_flat, List.nodup_iff_pairwise_ne, List.pairwise_map]
    refine (List.nodup_iff_pairwise_ne.1 (h2.filter _)).imp_of_mem ?_
    intro a b ha hb hab e
    obtain ⟨a1, a2⟩ := List.mem_filter.1 ha
    obtain ⟨b1, b2⟩ := List.mem_filter.1 hb
    have ia := hin a a1
    have ib := hin b b1
    have ra := (sub_back he ia.1 ia.2 (by simpa using a2)).2.2
    have rb := (sub_back he ib.1 ib.2 (by simpa using b2)).2.2
    rw [e, rb] at ra
    omega
  have hib : ∀ x ∈ (subL es rs l).flatten, 0 ≤ x ∧ x < 2 * (l.length : Int) := fun x hx => by
    rw [sub_flat] at hx
    obtain ⟨z, hz, e⟩ := List.mem_map.1 hx
    obtain ⟨z1, z2⟩ := List.mem_filter.1 hz
    have iz := hin z z1
    have := sub_back he iz.1 iz.2 (by simpa using z2)
    rw [← e]
    exact ⟨this.1, this.2.1⟩
  refine holds_iff.2 ⟨fun v hv x hx => ?_, hnd, ?_⟩
  · rw [subL_length] at hv
    have hx2 := hx
    rw [subL_at hv, rnL_is] at hx
    obtain ⟨z, hz, e⟩ := List.mem_map.1 hx
    obtain ⟨z1, z2⟩ := List.mem_filter.1 hz
    have b := h1 v hv z z1
    have r := sub_back he b.1 b.2.1 (by simpa using z2)
    rw [← e, pick_length]
    refine ⟨r.1, by omega, ?_⟩
    rw [from_pick (by omega), r.2.2, b.2.2]
  · rw [pick_length]
    have hp : ((subL es rs l).flatten).Perm (upN (2 * l.length)) := by
      rw [List.perm_ext_iff_of_nodup hnd (err_nodup (upN_err _))]
      intro x
      constructor
      · intro hx
        have := hib x hx
        obtain ⟨k, rfl⟩ : ∃ k : Nat, x = k := ⟨x.toNat, by omega⟩
        exact all_in (err_nodup (upN_err _)) (err_in (upN_err _)) (upN_length _) (by omega)
      · intro hx
        have := err_in (upN_err _) x hx
        obtain ⟨k, rfl⟩ : ∃ k : Nat, x = k := ⟨x.toNat, by omega⟩
        obtain ⟨t1, t2, t3⟩ := sub_there he (x := k) (by omega)
        rw [sub_flat]
        refine List.mem_map.2 ⟨(subN l k : Nat), List.mem_filter.2 ⟨all_in h2 (fun y hy => by have := hin y hy; omega) h3 t1, ?_⟩, t3⟩
        rw [Int.toNat_natCast]
        exact decide_eq_true t2
    rw [hp.length_eq, upN_length]
theorem net_pick (he : errL l es.length = 0) (hm : netB n es = true) : netB n (pick es l) = true := by
  obtain ⟨n0, n1, hes, hE⟩ := netB_is hm
  have hle := chosen_le he
  refine net_yes n0 ?_ fun j hj => ?_
  · rw [pick_length]
    simp [fitsB]
    omega
  · rw [pick_length] at hj
    have hi := (chk_zero (errN_all _ he j hj)).1
    rw [pick_at es l hj]
    obtain ⟨a, b, c, d⟩ := hE (iat l j).toNat (by omega)
    simp [edB, belowB, a, b, c, d]
theorem sub_rot (he : errL l es.length = 0) (h : rotI n es rs = 0) : rotI n (pick es l) (subL es rs l) = 0 := by
  obtain ⟨h1, h2, h3⟩ := rot_is h
  unfold rotI holdsB
  rw [if_pos (net_pick he h1), if_pos (by rw [subL_length]; exact h2), decide_eq_true (sub_holds he h3)]
  rfl
end Go.Proofs.Ytcgdmonejogbaaa
namespace Go.Proofs.Ytcgdmonejogbaaa
open Go.RowKit Go.Sort
open Go
variable {n : Nat} {es : List Pt} {rs : List (List Int)}
theorem edge_ok (h : holdsP es rs) : TrOk (nxN rs (2 * es.length) rs.length) (2 * es.length) (2 * es.length) (trN (nxN rs (2 * es.length) rs.length) (2 * es.length) (2 * es.length)).1 (edgeF es rs) :=
  tr_ok (fun _ hx => real_nn h hx) (real_prm h) _ (Nat.le_refl _)
theorem lat_app {A B : List (List Int)} {v : Nat} (hv : v < A.length) : lat (A ++ B) v = lat A v := by
  unfold lat
  rw [List.getD_eq_getElem?_getD, List.getD_eq_getElem?_getD, List.getElem?_append, if_pos hv]
theorem lat_get {A : List (List Int)} {v : Nat} (hv : v < A.length) : lat A v = A[v] := by
  unfold lat
  rw [List.getD_eq_getElem?_getD, List.getElem?_eq_getElem hv]
  rfl
theorem lat_empty {v : Nat} (h1 : (edgeF es rs).length ≤ v) (h2 : v < (facesL es rs).length) : lat (facesL es rs) v = [] := by
  have e : lat (facesL es rs) v = lat (emptyN rs rs.length) (v - (edgeF es rs).length) := by
    unfold facesL lat
    rw [List.getD_eq_getElem?_getD, List.getD_eq_getElem?_getD, List.getElem?_append, if_neg (by omega)]
  rw [e]
  unfold facesL at h2
  rw [List.length_append] at h2
  exact emptyN_mem rs _ _ (lat_mem (by omega))
theorem emptyN_flat (rs : List (List Int)) (v : Nat) : (emptyN rs v).flatten = [] := by
  rw [List.flatten_eq_nil_iff]
  exact fun l hl => emptyN_mem rs v l hl
/-- Each half-edge is on one face. -/
theorem faces_flat (h : holdsP es rs) : (facesL es rs).flatten.Nodup ∧ (facesL es rs).flatten.length = 2 * es.length := by
  have k := edge_ok h
  have P := real_prm h
  have e : (facesL es rs).flatten = (edgeF es rs).flatten := by
    unfold facesL
    rw [List.flatten_append, emptyN_flat, List.append_nil]
  rw [e]
  have hmem : ∀ i (hi : i < (edgeF es rs).length), ∀ x ∈ (edgeF es rs)[i], iat (trN (nxN rs (2 * es.length) rs.length) (2 * es.length) (2 * es.length)).1 x.toNat = i ∧ 0 ≤ x ∧ x < 2 * es.length := fun i hi x hx => by
    obtain ⟨a, p, ha, _, hp, hl, ep, hall, _⟩ := k.fc i hi
    rw [lat_get hi] at hl
    rw [hl] at hx
    obtain ⟨j, hj, ej⟩ := mem_iat hx
    rw [rd_len] at hj
    rw [rd_at hj] at ej
    have := P.it_lt ha j
    refine ⟨by rw [← ej, Int.toNat_natCast]; exact (hall j hj).1, by omega, ?_⟩
    have h2 : it (fn (nxN rs (2 * es.length) rs.length)) j a < 2 * es.length := this
    omega
  have hnd : (edgeF es rs).flatten.Nodup := by
    rw [List.nodup_iff_pairwise_ne, List.pairwise_flatten]
    refine ⟨fun l hl => ?_, ?_⟩
    · obtain ⟨i, hi, ei⟩ := List.mem_iff_getElem.1 hl
      obtain ⟨a, p, ha, _, hp, hl2, ep, hall, hin⟩ := k.fc i hi
      rw [lat_get hi, ei] at hl2
      rw [hl2]
      unfold rd
      rw [List.pairwise_map]
      rw [List.pairwise_iff_getElem]
      intro x y hx hy hxy e2
      simp only [List.length_range] at hx hy
      simp only [List.getElem_range] at e2
      have := hin x y hx hy (by omega)
      omega
    · rw [List.pairwise_iff_getElem]
      intro i j hi hj hij x hx y hy exy
      subst exy
      have h1 := (hmem i hi x hx).1
      have h2 := (hmem j hj x hy).1
      omega
  refine ⟨hnd, ?_⟩
  have hp : ((edgeF es rs).flatten).Perm (upN (2 * es.length)) := by
    rw [List.perm_ext_iff_of_nodup hnd (err_nodup (upN_err _))]
    intro x
    constructor
    · intro hx
      obtain ⟨l, hl, hxl⟩ := List.mem_flatten.1 hx
      obtain ⟨i, hi, ei⟩ := List.mem_iff_getElem.1 hl
      have := hmem i hi x (by rw [ei]; exact hxl)
      obtain ⟨y, rfl⟩ : ∃ y : Nat, x = y := ⟨x.toNat, by omega⟩
      exact all_in (err_nodup (upN_err _)) (err_in (upN_err _)) (upN_length _) (by omega)
    · intro hx
      have := err_in (upN_err _) x hx
      obtain ⟨y, rfl⟩ : ∃ y : Nat, x = y := ⟨x.toNat, by omega⟩
      rcases k.mrk y (by omega) with h1 | ⟨i, j, hi, hj, h1, h2⟩
      · have := k.dn y (by omega) (by omega); omega
      · rw [List.mem_flatten]
        refine ⟨lat (edgeF es rs) i, by rw [lat_get hi]; exact List.getElem_mem _, ?_⟩
        rw [← h2]; exact iat_mem hj
  rw [hp.length_eq, upN_length]
end Go.Proofs.Ytcgdmonejogbaaa
/- The document's Canon and Same, in every world. -/
namespace Go.Proofs.Ytcgdmonejogbaaa
open Go.RowKit Go.Sort
open Go
set_option maxRecDepth 100000 in
set_option maxHeartbeats 16000000 in
theorem canon49 (q : Option Addr) (rs : List (List Int)) (cq : Nat) (w : World) (hr : RHas w q rs) (hn : rs.length ≤ 100000) (hl : ∀ v, v < rs.length → (lat rs v).length ≤ 40000) : Calls Try.prog 63 #[.slice q rs.length cq] w fun e w' => ∃ g rv, e = .returned (.slice (some ⟨g, 0, none⟩) rs.length rs.length) ∧ Rows w' w.heap.size g rs.length rv (fun v => turnL (lat rs v)) ∧ Below w.heap.size w w' := by
  obtain ⟨i0, hi0, hz0, hz1, hz2⟩ := info_parts info41
  have HR := hide hr
  have HLL := hide hl
  clear hr hl
  go_enter Try.func63, Try.ntmps63
  go_wp2_with (refine wpList_make_full _ rfl (.tmp 6) (.tmp 6) 26 rfl w.heap.size 44 i0 (.slice none 0 0) 1 Try.underlying26 hi0 hz0 hz1 .i64 .i64 _ _ rs.length rfl rfl rfl rfl ?c1 ?c2 ?c3 ?_)
  case c1 => rw [hz2]; omega
  case c2 => unfold maxLen; omega
  case c3 => exact Nat.le_refl _
  intro w2 hown hgrow
  have HB2 := hide (below_made hgrow)
  have HR2 : Hid (Rows w2 w.heap.size w.heap.size rs.length (fun _ => .slice none 0 0) (fun v => if v < 0 then turnL (lat rs v) else [])) := (rows_made [] hown).congr (fun v _ => by simp [outL])
  obtain ⟨g, hg⟩ : ∃ g, w.heap.size = g := ⟨_, rfl⟩
  have HG := hide hg
  rw [show Rows w2 w.heap.size w.heap.size rs.length (fun _ => Value.slice none 0 0) (fun v => if v < 0 then turnL (lat rs v) else []) = Rows w2 w.heap.size g rs.length (fun _ => Value.slice none 0 0) (fun v => if v < 0 then turnL (lat rs v) else []) by rw [hg]] at HR2
  try rw [hg]
  clear hown hgrow hg hi0 hz0 hz1 hz2 i0
  go_wp2_with fail
  go_loopw [4] (fun t4 wr => ∃ (v : Nat) (rv : Nat → Value), v ≤ rs.length ∧ t4 = .int .i64 v ∧ Hid (Below w.heap.size w wr) ∧ Hid (Rows wr w.heap.size g rs.length rv (fun u => if u < v then turnL (lat rs u) else []))) (fun t4 _ => rs.length - (intOf t4).toNat)
  case atStart => exact ⟨0, _, by omega, rfl, HB2.out, HR2.out⟩
  case round =>
    obtain ⟨v, rv, hv, rfl, HBr, HRr⟩ := hrel
    clear HB2 HR2
    by_cases hlt : v < rs.length
    · obtain ⟨b1, o1, a1, k1, rfl, c0W, m1, z1⟩ := HR.out.at_ hlt
      have c0 := later HBr.out c0W
      have e1 : (v : Int) < rs.length := by omega
      have TU := hide (turned70 a1 (lat rs v) k1 wr (m1.later HBr.out) z1.2.1 z1.2.2 (HLL.out v hlt))
      have HSTEP : Hid (∀ (V : World) (rv' : Nat → Value) (x : List Int), x = turnL (lat rs v) → Rows V w.heap.size g rs.length rv' (upd (fun u => if u < v then turnL (lat rs u) else []) v x) → Rows V w.heap.size g rs.length rv' (fun u => if u < v + 1 then turnL (lat rs u) else [])) := fun V rv' x hx hR => hR.congr (fun u _ => by
        by_cases hu : u = v
        · subst hu; rw [upd_same, if_pos (by omega), hx]
        · rw [upd_other _ _ hu]
          by_cases h : u < v
          · rw [if_pos h, if_pos (by omega)]
          · rw [if_neg h, if_neg (by omega)])
      clear m1 z1 c0W
      go_wp2_with fail
      refine TU.out.mono ?_
      rintro e V2 ⟨v1, rfl, o1', hb7⟩
      obtain ⟨p7, l7, c7, rfl⟩ : ∃ p7 l7 c7, v1 = .slice p7 l7 c7 := by obtain ⟨p7, c7, h7, _⟩ := o1'.form; exact ⟨_, _, _, h7⟩
      have HB7 := hide (below_step HBr.out hb7)
      have HLAY := hide (HRr.out.lay hlt hb7 HBr.out.size o1')
      obtain ⟨d0, f0⟩ := (HRr.out.later hb7).cell hlt
      have HGE : Hid (w.heap.size ≤ g) := HRr.out.size.1
      have HR8 := hide (HSTEP.out _ _ _ rfl HLAY.out)
      have HB8 : Hid (Below w.heap.size w (V2.setCell ⟨g, v, none⟩ (.slice p7 l7 c7))) := HB7.out.setCell (p := ⟨g, v, none⟩) HGE.out _
      clear TU hb7 o1' c0
      go_wp2
      go_roundw
      case rel => exact ⟨v + 1, _, by omega, by go_num, HB8.out, HR8.out⟩
      case measure => simp [intOf]; omega
    · have hve : v = rs.length := by omega
      have e1 : ¬ (v : Int) < rs.length := by omega
      have HF := hide (HRr.out.congr (L' := fun u => turnL (lat rs u)) (fun u hu => by rw [if_pos (by omega)]))
      clear hve
      go_wp2
      go_ret
      exact ⟨g, rfl, ⟨rv, HF.out⟩, HBr.out⟩
end Go.Proofs.Ytcgdmonejogbaaa
namespace Go.Proofs.Ytcgdmonejogbaaa
open Go.RowKit Go.Sort
open Go
end Go.Proofs.Ytcgdmonejogbaaa
