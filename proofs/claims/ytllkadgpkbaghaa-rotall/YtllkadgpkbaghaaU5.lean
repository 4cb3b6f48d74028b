/- The document's First and Mirror, in every world. -/
import Derived.Test.YtllkadgpkbaghaaU2
import Derived.Deep.RegionHeld3
import Derived.Test.YtllkadgpkbaghaaY10
import Derived.Test.YtllkadgpkbaghaaE8
/- The document's Genus: as the program's. -/
/- The document's Of and Genus: as the program's. -/
namespace Go.Proofs.Ytllkadgpkbaghaa
open Go.RowKit Go.Sort
open Go
/-- The faces' numbers of those half-edges that are over. -/
def ofB (F : List (List Int)) (O : List Int) (m f k : Nat) : List Int := (List.range m).map fun x => if ((x : Nat) : Int) ∈ ahead F f k then iat O x else 0
theorem ofB_len (F : List (List Int)) (O : List Int) (m f k : Nat) : (ofB F O m f k).length = m := by simp [ofB]
theorem ofB_at {F : List (List Int)} {O : List Int} {m f k x : Nat} (hx : x < m) : iat (ofB F O m f k) x = if ((x : Nat) : Int) ∈ ahead F f k then iat O x else 0 := by
  unfold ofB iat
  rw [List.getD_eq_getElem?_getD, List.getElem?_map, List.getElem?_range hx]
  rfl
theorem ofB_zero (F : List (List Int)) (O : List Int) (m : Nat) : ofB F O m 0 0 = List.replicate m 0 := by
  refine list_iat (by rw [ofB_len]; simp) fun i hi => ?_
  rw [ofB_len] at hi
  rw [ofB_at hi, ahead_zero, iat_fill hi]
  simp
theorem ofB_step {F : List (List Int)} {O : List Int} {m f k x : Nat} (hk : k < (lat F f).length) (hx : iat (lat F f) k = (x : Int)) (hO : iat O x = f) : ofB F O m f (k + 1) = (ofB F O m f k).set x f := by
  refine list_iat (by rw [List.length_set, ofB_len, ofB_len]) fun i hi => ?_
  rw [ofB_len] at hi
  rw [iat_set _ _ _ _ (by rw [ofB_len]; exact hi), ofB_at hi, ofB_at hi, ahead_succ hk, hx]
  by_cases e : x = i
  · subst e
    rw [if_pos rfl, if_pos (by simp), hO]
  · rw [if_neg e]
    have : ((i : Int) ∈ ahead F f k ++ [(x : Int)]) ↔ (i : Int) ∈ ahead F f k := by
      rw [List.mem_append]
      constructor
      · rintro (h | h)
        · exact h
        · simp at h; omega
      · exact Or.inl
    by_cases h : (i : Int) ∈ ahead F f k
    · rw [if_pos (this.2 h), if_pos h]
    · rw [if_neg (fun h2 => h (this.1 h2)), if_neg h]
variable {n : Nat} {es : List Pt} {rs : List (List Int)}
/-- The number of the face that a half-edge is on. -/
theorem of_face (h : holdsP es rs) {f k : Nat} (hf : f < (facesL es rs).length) (hk : k < (lat (facesL es rs) f).length) : ∃ x : Nat, iat (lat (facesL es rs) f) k = (x : Int) ∧ x < 2 * es.length ∧ iat (ofL es rs) x = f := by
  by_cases hfe : f < (edgeF es rs).length
  · have el : lat (facesL es rs) f = lat (edgeF es rs) f := by unfold facesL; exact lat_app hfe
    obtain ⟨a, p, ha, _, hp, hl, ep, hall, _⟩ := (edge_ok h).fc f hfe
    rw [el, hl] at hk ⊢
    rw [rd_len] at hk
    exact ⟨_, rd_at hk, (real_prm h).it_lt ha k, (hall k hk).1⟩
  · rw [lat_empty (by omega) hf] at hk
    simp at hk
theorem ofB_all (h : holdsP es rs) : ofB (facesL es rs) (ofL es rs) (2 * es.length) (facesL es rs).length 0 = ofL es rs := by
  have hol : (ofL es rs).length = 2 * es.length := (edge_ok h).len
  refine list_iat (by rw [ofB_len, hol]) fun i hi => ?_
  rw [ofB_len] at hi
  rw [ofB_at hi, ahead_all, if_pos]
  obtain ⟨h1, h2⟩ := faces_flat h
  refine all_in (m := 2 * es.length) h1 (fun x hx => ?_) h2 hi
  obtain ⟨l, hl, hxl⟩ := List.mem_flatten.1 hx
  obtain ⟨f, hf, ef⟩ := List.mem_iff_getElem.1 hl
  obtain ⟨k, hk, ek⟩ := mem_iat hxl
  obtain ⟨y, y1, y2, _⟩ := of_face h hf (k := k) (by rw [lat_get hf, ef]; exact hk)
  rw [lat_get hf, ef, ek] at y1
  omega
set_option maxRecDepth 100000 in
set_option maxHeartbeats 16000000 in
theorem of46 (n : Int) (p : Option Addr) (es : List Pt) (cp : Nat) (q : Option Addr) (rs : List (List Int)) (cq : Nat) (w : World) (hr : RHas w q rs) (h0 : rotI n es rs = 0) : Calls Try.prog 46 #[nv n p es.length cp, .slice q rs.length cq] w fun e w' => ∃ g, e = .returned (.slice (some ⟨g, 0, none⟩) (2 * es.length) (2 * es.length)) ∧ IRow w' w.heap.size g (2 * es.length) (ofL es rs) ∧ Below w.heap.size w w' := by
  obtain ⟨W, hW, hb0, a0⟩ := one_net w n p es.length cp
  obtain ⟨n0, n1, hes, _⟩ := netB_is (rot_is h0).1
  have FC := hide (faces45 n p es cp q rs cq W (hr.later hb0) h0)
  obtain ⟨i0, hi0, hz0, hz1, hz2⟩ := info_parts info3
  have HB := hide hb0
  have HA := hide a0
  have hfl := facesL_le h0
  have HLE : Hid (∀ v, v < (facesL es rs).length → (lat (facesL es rs) v).length ≤ 2 * es.length + 1) := fun v hv => face_le es rs hv
  have HOF : Hid (∀ f k, f < (facesL es rs).length → k < (lat (facesL es rs) f).length → ∃ x : Nat, iat (lat (facesL es rs) f) k = (x : Int) ∧ x < 2 * es.length ∧ iat (ofL es rs) x = f) := fun f k hf hk => of_face (rot_is h0).2.2 hf hk
  have HAL := hide (ofB_all (rot_is h0).2.2)
  clear hr hb0 a0 h0
  obtain ⟨m, hm⟩ : ∃ m, 2 * es.length = m := ⟨_, rfl⟩
  obtain ⟨F, hF⟩ : ∃ F, facesL es rs = F := ⟨_, rfl⟩
  obtain ⟨O, hO⟩ : ∃ O, ofL es rs = O := ⟨_, rfl⟩
  rw [hm] at HLE HOF HAL ⊢
  rw [hF] at FC HLE HOF HAL hfl
  rw [hO] at HOF HAL ⊢
  have hm2 : m ≤ 90000 := by omega
  have hmi : 2 * (es.length : Int) = m := by omega
  clear hF hO
  go_enter Try.func46, Try.ntmps46
  go_wp2_with fail
  rw [← hW]
  obtain ⟨kg, hkg⟩ : ∃ k, w.heap.size = k := ⟨_, rfl⟩
  have HKG := hide hkg
  rw [hkg] at HA
  try rw [hkg]
  clear hW hkg
  refine FC.out.mono ?_
  rintro e w1 ⟨p1, c1, rv1, rfl, hfb, hb1⟩
  have HF1 := hide (hfb.has fun v hv => Nat.le_trans (HLE.out v hv) (show m + 1 ≤ maxLen by unfold maxLen; omega))
  have HB1 := hide hb1
  obtain ⟨g0, g1, _, _⟩ := HA.out.later hb1
  clear hb1 hfb FC
  go_wp2_with (refine wpList_make_full _ rfl (.tmp 15) (.tmp 15) 27 rfl w1.heap.size 3 i0 (.int .i64 0) 1 Try.underlying27 hi0 hz0 hz1 .i64 .i64 _ _ m rfl (by first | exact congrArg (fun z => some (Value.int .i64 z)) hmi | rfl | (rw [hmi]; rfl) | (simp only [Act.eval]; rw [hmi]; rfl) | simp [hmi]) (by first | exact congrArg (fun z => some (Value.int .i64 z)) hmi | rfl | (rw [hmi]; rfl) | simp [hmi]) rfl ?c1 ?c2 ?c3 ?_)
  all_goals first | (intro w2 hown hgrow) | (case c3 => exact Nat.le_refl _) | (case c2 => unfold maxLen; omega) | (case c1 => first | omega | (rw [hz2]; omega))
  have hgp := irow_made hown
  obtain ⟨g, hg⟩ : ∃ g, w1.heap.size = g := ⟨_, rfl⟩
  have HG0 : Hid (IRow w2 w1.heap.size g m (ofB F O m 0 0)) := by
    show IRow _ _ _ _ _
    rw [ofB_zero]
    rw [hg] at hgp ⊢
    exact hgp
  have HB2 := hide (below_made hgrow)
  try rw [hg]
  clear hown hgrow hgp hg hi0 hz0 hz1 hz2 i0 g0 g1
  go_wp2_with fail
  go_loopw [7] (fun t7 wr => ∃ f : Nat, f ≤ F.length ∧ t7 = .int .i64 f ∧ Hid (Below w1.heap.size w1 wr) ∧ Hid (IRow wr w1.heap.size g m (ofB F O m f 0))) (fun t7 _ => F.length - (intOf t7).toNat)
  case atStart => exact ⟨0, by omega, rfl, HB2.out, HG0.out⟩
  case round =>
    obtain ⟨f, hf, rfl, HBr, HGr⟩ := hrel
    clear HB2 HG0
    by_cases hlt : f < F.length
    · obtain ⟨bF, oF, aF, kF, rfl, cF, mF, zF, _⟩ := HF1.out.at_ hlt
      have e1 : (f : Int) < F.length := by omega
      have hlf := HLE.out f hlt
      have HMF := hide mF
      have HCF := hide cF
      clear mF zF cF
      go_wp2_with fail
      go_loopw [8] (fun t8 wj => ∃ k : Nat, k ≤ (lat F f).length ∧ t8 = .int .i64 k ∧ Hid (Below w1.heap.size w1 wj) ∧ Hid (IRow wj w1.heap.size g m (ofB F O m f k))) (fun t8 _ => (lat F f).length - (intOf t8).toNat)
      case atStart => exact ⟨0, by omega, rfl, HBr.out, HGr.out⟩
      case round =>
        obtain ⟨k, hk, rfl, HBj, HGj⟩ := hrel
        clear HBr HGr
        have c0 := later HBj.out HCF.out
        by_cases hkl : k < (lat F f).length
        · rcases HMF.out.later HBj.out with hn | ⟨b2, o2, rfl, l2⟩
          · rw [hn] at hkl; simp at hkl
          obtain ⟨x, ex, hx, hox⟩ := HOF.out f k hlt hkl
          have c3 := l2 k hkl
          rw [ex] at c3
          have HST : Hid (ofB F O m f (k + 1) = (ofB F O m f k).set x f) := ofB_step hkl ex hox
          obtain ⟨d0, f0⟩ := HGj.out.cell hx
          have HSET := hide (HGj.out.set x f)
          have HBS : Hid (Below w1.heap.size w1 (wr.setCell ⟨g, x, none⟩ (.int .i64 f))) := HBj.out.setCell (p := ⟨g, x, none⟩) HGj.out.lt.1 _
          rw [← HST.out] at HSET
          have j1 : (k : Int) < (lat F f).length := by omega
          have j2 : (x : Int) < m := by omega
          clear l2 ex hox HGj
          go_wp2
          go_roundw
          case rel => exact ⟨k + 1, by omega, by go_num, HBS.out, HSET.out⟩
          case measure => simp [intOf]; omega
        · have hke : k = (lat F f).length := by omega
          have j1 : ¬ (k : Int) < (lat F f).length := by omega
          have HA9 : Hid (ofB F O m (f + 1) 0 = ofB F O m f k) := by show _ = _; unfold ofB; rw [hke, ahead_next hlt]
          rw [← HA9.out] at HGj
          clear hke hkl
          go_wp2
          go_roundw
          case rel => exact ⟨f + 1, by omega, by go_num, HBj.out, HGj.out⟩
          case measure => simp [intOf]; omega
    · have hfe : f = F.length := by omega
      have e1 : ¬ (f : Int) < F.length := by omega
      rw [hfe, HAL.out] at HGr
      have HGE : Hid (IRow wr w.heap.size g m O) := HGr.out.base (by have := HB1.out.size; have := HB.out.size; omega)
      have HBE := hide (below_step HB.out (below_step HB1.out HBr.out))
      clear hfe HGr HBr
      go_wp2
      go_ret
      exact ⟨g, rfl, HGE.out, HBE.out⟩
end Go.Proofs.Ytllkadgpkbaghaa

namespace Go.Proofs.Ytllkadgpkbaghaa
open Go.RowKit Go.Sort
open Go
/-- The document's components, counted and numbered. -/
theorem parts26 (N : Nat) (p : Option Addr) (es : List Pt) (cp : Nat) (w : World) (h : Has w p es) (hm : netB N es = true) : Calls Try.prog 26 #[nv N p es.length cp, .slice none 0 0, .slice none 0 0] w fun e w' => ∃ g C r, e = .returned (.tuple #[.slice (some ⟨g, 0, none⟩) N N, .int .i64 (compN N es : Nat)]) ∧ IRow w' w.heap.size g N C ∧ Lab es N (compN N es) N C r NoDue ∧ Below w.heap.size w w' := by
  refine (parts19 N p es cp w h hm).mono ?_
  rintro e w' ⟨gc, kc, C, rc, rfl, hi, hlab, hb⟩
  have hkc : kc = compN N es := by
    obtain ⟨r0, L0⟩ := parts_lab (n := N) (es := es) hm
    have := (hlab.uniq hm L0).1
    rw [this]
    unfold compN
    rw [Int.toNat_natCast]
  rw [hkc] at hlab ⊢
  exact ⟨gc, C, rc, rfl, hi, hlab, hb⟩
set_option maxRecDepth 100000 in
set_option maxHeartbeats 16000000 in
theorem genus47 (N : Nat) (p : Option Addr) (es : List Pt) (cp : Nat) (q : Option Addr) (rs : List (List Int)) (cq : Nat) (w : World) (h : Has w p es) (hr : RHas w q rs) (h0 : rotI N es rs = 0) : Calls Try.prog 47 #[nv N p es.length cp, .slice q rs.length cq] w fun e w' => e = .returned (.int .i64 (genusI N es rs)) ∧ Below w.heap.size w w' := by
  obtain ⟨W, hW, hb0, a0⟩ := one_net w N p es.length cp
  obtain ⟨n0, n1, hes, _⟩ := netB_is (rot_is h0).1
  have PA := hide (parts26 N p es cp W (h.later hb0) (rot_is h0).1)
  have HB := hide hb0
  have HA := hide a0
  have HR := hide (hr.later hb0)
  have HRT := hide h0
  have hfl := facesL_le h0
  have hcomp : compN N es ≤ 10000 := by have := comp_le (rot_is h0).1; omega
  have HGI : Hid (genusI N es rs = Int.tdiv (2 * (compN N es : Nat) - N + es.length - (facesL es rs).length) 2) := rfl
  obtain ⟨gi, hgi⟩ : ∃ g, genusI N es rs = g := ⟨_, rfl⟩
  rw [hgi] at HGI ⊢
  clear h hr hb0 a0 h0 hgi
  obtain ⟨c, hc⟩ : ∃ c, compN N es = c := ⟨_, rfl⟩
  rw [hc] at PA hcomp HGI
  clear hc
  go_enter Try.func47, Try.ntmps47
  go_wp2_with fail
  rw [← hW]
  obtain ⟨kg, hkg⟩ : ∃ k, w.heap.size = k := ⟨_, rfl⟩
  have HKG := hide hkg
  rw [hkg] at HA
  try rw [hkg]
  clear hW hkg
  refine PA.out.mono ?_
  rintro e w1 ⟨gc, C, rc, rfl, _, _, hb1⟩
  have HB1 := hide hb1
  have HA1 := hide (HA.out.later hb1)
  have FC : Hid (∀ V, Below w1.heap.size w1 V → Calls Try.prog 45 #[nv N p es.length cp, .slice q rs.length cq] V fun e w' => ∃ p1 c1, e = .returned (.slice p1 (facesL es rs).length c1) ∧ Below V.heap.size V w') := fun V hV => (faces45 N p es cp q rs cq V ((HR.out.later HB1.out).later hV) HRT.out).mono fun e w' ⟨p1, c1, rv, he, _, hb⟩ => ⟨p1, c1, he, hb⟩
  clear hb1 PA
  obtain ⟨F, hF⟩ : ∃ F, (facesL es rs).length = F := ⟨_, rfl⟩
  rw [hF] at FC hfl HGI
  clear hF
  have HS : Hid (∀ V, Below w1.heap.size w1 V → V.cell? ⟨kg, 0, none⟩ = some (.int .i64 N) ∧ V.cell? ⟨kg, 1, none⟩ = some (.slice p es.length cp)) := fun V hV => by obtain ⟨x0, x1, _, _⟩ := HA1.out.later hV; exact ⟨x0, x1⟩
  have d1 : IntKind.i64.wrap (2 * (c : Int)) = 2 * c := by rw [IntKind.wrap_i64]; omega
  have d2 : IntKind.i64.wrap (2 * (c : Int) - N) = 2 * c - N := by rw [IntKind.wrap_i64]; omega
  have d3 : IntKind.i64.wrap (2 * (c : Int) - N + es.length) = 2 * c - N + es.length := by rw [IntKind.wrap_i64]; omega
  have d4 : IntKind.i64.wrap (2 * (c : Int) - N + es.length - F) = 2 * c - N + es.length - F := by rw [IntKind.wrap_i64]; omega
  have tb := tdiv_in (x := 2 * (c : Int) - N + es.length - F) (by omega) (by omega)
  rw [← HGI.out] at tb
  have d5 : IntKind.i64.wrap gi = gi := by rw [IntKind.wrap_i64]; omega
  have d6 : Int.tdiv (2 * (c : Int) - N + es.length - F) 2 = gi := HGI.out.symm
  go_wp2_with fail
  go_region_held3 (fun V => V.cell? ⟨kg, 0, none⟩ = some (.int .i64 N) ∧ V.cell? ⟨kg, 1, none⟩ = some (.slice p es.length cp))
    (first | exact HS.out _ (below_drew w1) | exact HS.out _ (Below.refl _ _) | exact HS.out _ HV3.out)
    (first | (go_at_call 45; refine (FC.out _ (below_drew w1)).mono ?_; rintro e w3 ⟨p1, c1, rfl, hb3'⟩; have HV3 := hide (below_step (below_drew w1) hb3'); clear hb3'))
  rename_i hHeld
  clear hHeld
  have HBE := hide (below_step HB.out (below_step HB1.out HV3.out))
  go_wp2
  go_ret
  exact ⟨rfl, HBE.out⟩
end Go.Proofs.Ytllkadgpkbaghaa

namespace Go.Proofs.Ytllkadgpkbaghaa
open Go.RowKit Go.Sort
open Go
set_option maxRecDepth 100000 in
set_option maxHeartbeats 8000000 in
theorem first42 (m : Nat) (p : Option Addr) (es : List Pt) (cp : Nat) (w : World) (h : Has w p es) (hm : netB m es = true) : Calls Try.prog 42 #[nv m p es.length cp] w fun e w' => ∃ g rv, e = .returned (.slice (some ⟨g, 0, none⟩) m m) ∧ Rows w' w.heap.size g m rv (outL es (2 * es.length)) ∧ Below w.heap.size w w' := by
  obtain ⟨W, hW, hb, a0⟩ := one_net w m p es.length cp
  have O := hide (outs42 m p es cp W (h.later hb) hm)
  have HB := hide hb
  obtain ⟨q0, q1, _, _⟩ := a0
  clear h hb
  go_enter Try.func42, Try.ntmps42
  go_wp2_with fail
  rw [← hW]
  clear hW
  refine O.out.mono ?_
  rintro r w1 ⟨g, rv, rfl, hr, hb1⟩
  have HR := hide (hr.base HB.out.size)
  have HBE := hide (below_step HB.out hb1)
  clear hr hb1 O q0 q1
  go_wp2
  go_ret
  exact ⟨g, rv, rfl, HR.out, HBE.out⟩
/-- The lists gone back, the first v of them, and t numbers of the next. -/
def mrN (rs : List (List Int)) (v t u : Nat) : List Int := if u < v then (lat rs u).reverse else if u = v then (lat rs v).reverse.take t else []
theorem mrN_at (rs : List (List Int)) (v t : Nat) : mrN rs v t v = (lat rs v).reverse.take t := by unfold mrN; rw [if_neg (by omega), if_pos rfl]
theorem mrN_step {rs : List (List Int)} {v t : Nat} {x : Int} (ht : t < (lat rs v).length) (hx : iat (lat rs v) ((lat rs v).length - 1 - t) = x) (u : Nat) : upd (mrN rs v t) v (mrN rs v t v ++ [x]) u = mrN rs v (t + 1) u := by
  by_cases h : u = v
  · subst h
    rw [upd_same, mrN_at, mrN_at]
    have e : (lat rs u).reverse.take (t + 1) = (lat rs u).reverse.take t ++ [(lat rs u).reverse[t]'(by simpa using ht)] := by rw [List.take_add_one, List.getElem?_eq_getElem (by simpa using ht)]; rfl
    rw [e]
    congr 2
    rw [← hx, ← rev_at ht]
    unfold iat
    rw [List.getD_eq_getElem?_getD, List.getElem?_eq_getElem (by simpa using ht)]
    rfl
  · rw [upd_other _ _ h]
    unfold mrN
    by_cases h2 : u < v
    · rw [if_pos h2, if_pos h2]
    · rw [if_neg h2, if_neg h2, if_neg h, if_neg h]
theorem mrN_next {rs : List (List Int)} {v t : Nat} (ht : t = (lat rs v).length) (u : Nat) : mrN rs v t u = mrN rs (v + 1) 0 u := by
  unfold mrN
  by_cases h1 : u < v
  · rw [if_pos h1, if_pos (by omega)]
  · rw [if_neg h1]
    by_cases h2 : u = v
    · subst h2
      rw [if_pos rfl, if_pos (by omega), List.take_of_length_le (by simp; omega)]
    · rw [if_neg h2, if_neg (by omega)]
      by_cases h3 : u = v + 1
      · rw [if_pos h3]; simp
      · rw [if_neg h3]
set_option maxRecDepth 100000 in
set_option maxHeartbeats 16000000 in
theorem mirror48 (q : Option Addr) (rs : List (List Int)) (cq : Nat) (w : World) (hr : RHas w q rs) (hn : rs.length ≤ 90000) (hl : ∀ v, v < rs.length → (lat rs v).length ≤ 40000) : Calls Try.prog 48 #[.slice q rs.length cq] w fun e w' => ∃ g rv, e = .returned (.slice (some ⟨g, 0, none⟩) rs.length rs.length) ∧ Rows w' w.heap.size g rs.length rv (fun v => lat (mirrorL rs) v) ∧ Below w.heap.size w w' := by
  obtain ⟨i0, hi0, hz0, hz1, hz2⟩ := info_parts info41
  have HR := hide hr
  have HLL := hide hl
  clear hr hl
  go_enter Try.func48, Try.ntmps48
  go_wp2_with (refine wpList_make_full _ rfl (.tmp 7) (.tmp 7) 26 rfl w.heap.size 27 i0 (.slice none 0 0) 1 Try.underlying26 hi0 hz0 hz1 .i64 .i64 _ _ rs.length rfl rfl rfl rfl ?c1 ?c2 ?c3 ?_)
  case c1 => rw [hz2]; omega
  case c2 => unfold maxLen; omega
  case c3 => exact Nat.le_refl _
  intro w2 hown hgrow
  have HB2 := hide (below_made hgrow)
  have hr2 : Rows w2 w.heap.size w.heap.size rs.length (fun _ => .slice none 0 0) (mrN rs 0 0) := (rows_made [] hown).congr (fun v _ => by simp [outL, mrN])
  obtain ⟨wb, hwb⟩ : ∃ z, z = w := ⟨_, rfl⟩
  obtain ⟨g, hg⟩ : ∃ g, w.heap.size = g := ⟨_, rfl⟩
  have HR2 : Hid (Rows w2 w.heap.size g rs.length (fun _ => .slice none 0 0) (mrN rs 0 0)) := by show Rows _ _ _ _ _ _; rw [← hg]; exact hr2
  have HSZ : Hid (wb.heap.size = w.heap.size ∧ w.heap.size = g ∧ wb = w) := ⟨by rw [hwb], hg, hwb⟩
  try rw [hg]
  have HB2' : Hid (Below wb.heap.size wb w2) := by show Below _ _ _; rw [hwb]; exact HB2.out
  clear hown hgrow hi0 hz0 hz1 hz2 i0 hr2 hg hwb HB2
  go_wp2_with fail
  go_loopw [4] (fun t4 wr => ∃ (v : Nat) (rv : Nat → Value), v ≤ rs.length ∧ t4 = .int .i64 v ∧ Hid (Below wb.heap.size wb wr) ∧ Hid (Rows wr w.heap.size g rs.length rv (mrN rs v 0))) (fun t4 _ => rs.length - (intOf t4).toNat)
  case atStart => exact ⟨0, _, by omega, rfl, HB2'.out, HR2.out⟩
  case round =>
    obtain ⟨v, rv0, hv, rfl, HBr, HRr⟩ := hrel
    clear HB2' HR2
    by_cases hlt : v < rs.length
    · obtain ⟨b1, o1, a1, k1, rfl, c0W, m1, _, _, _⟩ := HR.out.at_ hlt
      have e1 : (v : Int) < rs.length := by omega
      have hlb := HLL.out v hlt
      obtain ⟨la, hla⟩ : ∃ l, (lat rs v).length = l := ⟨_, rfl⟩
      rw [hla] at c0W hlb
      have HLA := hide hla
      have HC0 : Hid (∀ V, Below wb.heap.size wb V → V.cell? ⟨b1, o1 + v, none⟩ = some (.slice a1 la k1)) := fun V hV => later (by rw [HSZ.out.2.2] at hV; exact hV) c0W
      have HM1 : Hid (∀ V, Below wb.heap.size wb V → IHas V a1 (lat rs v)) := fun V hV => m1.later (by rw [HSZ.out.2.2] at hV; exact hV)
      have c0 := HC0.out _ HBr.out
      have d0 : IntKind.i64.wrap ((la : Int) - 1) = la - 1 := by rw [IntKind.wrap_i64]; omega
      clear m1 c0W hla
      go_wp2_with fail
      clear c0
      go_loopw [5] (fun t5 wj => ∃ (t : Nat) (rv : Nat → Value), t ≤ la ∧ t5 = .int .i64 ((la : Int) - 1 - t) ∧ Hid (Below wb.heap.size wb wj) ∧ Hid (Rows wj w.heap.size g rs.length rv (mrN rs v t))) (fun t5 _ => (intOf t5 + 1).toNat)
      case atStart => exact ⟨0, _, by omega, by simp, HBr.out, HRr.out⟩
      case round =>
        obtain ⟨t, rv, ht, rfl, HBj, HRj⟩ := hrel
        clear HBr HRr
        by_cases htl : t < la
        · obtain ⟨k, hk⟩ : ∃ k : Nat, (la : Int) - 1 - t = k := ⟨la - 1 - t, by omega⟩
          rw [hk]
          have k1' : (k : Int) < la := by omega
          have k2 : (k : Int) ≥ 0 := by omega
          have kn : k = la - 1 - t := by omega
          have dk : IntKind.i64.wrap ((k : Int) - 1) = k - 1 := by rw [IntKind.wrap_i64]; omega
          rcases HM1.out _ HBj.out with hn2 | ⟨b2, o2, rfl, l2⟩
          · have := HLA.out; rw [hn2] at this; simp at this; omega
          have c1 := l2 k (by rw [HLA.out]; omega)
          obtain ⟨x, hx⟩ : ∃ x, iat (lat rs v) k = x := ⟨_, rfl⟩
          rw [hx] at c1
          have HST : Hid (∀ (V : World) (rv' : Nat → Value), Rows V w.heap.size g rs.length rv' (upd (mrN rs v t) v (mrN rs v t v ++ [x])) → Rows V w.heap.size g rs.length rv' (mrN rs v (t + 1))) := fun V rv' h => h.congr fun u _ => mrN_step (by rw [HLA.out]; exact htl) (by rw [HLA.out, ← kn]; exact hx) u
          have HS : Hid (∀ V, Below wb.heap.size wb V → V.cell? ⟨b1, o1 + v, none⟩ = some (.slice (some ⟨b2, o2, none⟩) la k1) ∧ V.cell? ⟨b2, o2 + k, none⟩ = some (.int .i64 x)) := fun V hV => ⟨HC0.out V hV, by
            rcases HM1.out V hV with hn2 | ⟨b3, o3, e3, l3⟩
            · have := HLA.out; rw [hn2] at this; simp at this; omega
            · injection e3 with e3; injection e3 with e3 e4; subst e3; subst e4
              have := l3 k (by rw [HLA.out]; omega)
              rw [hx] at this
              exact this⟩
          have hk0 : b1 ≠ g := by
            have h1 : b1 < wb.heap.size := block_lt_of_cell (HC0.out wb (Below.refl _ _))
            obtain ⟨h2, h3, _⟩ := HSZ.out
            omega
          have hk1 : b2 ≠ g := by
            have h1 : b2 < wb.heap.size := block_lt_of_cell (HS.out wb (Below.refl _ _)).2
            obtain ⟨h2, h3, _⟩ := HSZ.out
            omega
          have HKK := hide hk
          clear l2 c1 kn hk hx
          go_upto_region 8 with fail
          obtain ⟨V0, hV0⟩ : ∃ V, V = wr.drew := ⟨_, rfl⟩
          have HB0 : Hid (Below wb.heap.size wb V0) := by show Below _ _ _; rw [hV0]; exact below_step HBj.out (below_drew _)
          have HR0 : Hid (Rows V0 w.heap.size g rs.length rv (mrN rs v t)) := by show Rows _ _ _ _ _ _; rw [hV0]; exact HRj.out.later (below_drew _)
          obtain ⟨s0, s1⟩ := HS.out _ HB0.out
          refine wp_region_held_drew (S := (fun V => V.cell? ⟨b1, o1 + v, none⟩ = some (.slice (some ⟨b2, o2, none⟩) la k1) ∧ V.cell? ⟨b2, o2 + k, none⟩ = some (.int .i64 x))) (by kernel_rfl) (by rw [← hV0]; exact ⟨s0, s1⟩) (fun hHeld => ?_)
          rw [← hV0] at hHeld ⊢
          clear hV0 HBj HRj
          refine wpAnyH_take (i := 0) (v := ?v1) rfl (by kernel_rfl) (by kernel_rfl) (by kernel_rfl) (fun _ _ _ h => h) (Or.inl ⟨by rfl, ?hy1⟩) (by assumption) ?rest1
          case hy1 => (intro w hSw; (try dsimp only at hSw); go_simp; try with_reducible rfl)
          try simp only [Act.put, List.getElem_toArray, List.getElem_cons_zero, List.setIfInBounds_toArray, List.set_cons_zero, List.set_cons_succ]
          refine wpAnyH_take (i := 1) (v := ?v2) rfl (by kernel_rfl) (by kernel_rfl) (by kernel_rfl) (fun _ _ _ h => h) (Or.inl ⟨by rfl, ?hy2⟩) (by assumption) ?rest2
          case hy2 => (intro w hSw; (try dsimp only at hSw); go_simp; try with_reducible rfl)
          try simp only [Act.put, List.getElem_toArray, List.getElem_cons_zero, List.getElem_cons_succ, List.setIfInBounds_toArray, List.set_cons_zero, List.set_cons_succ]
          refine wpAnyH_take (i := 2) (v := ?v3) rfl (by kernel_rfl) (by kernel_rfl) (by kernel_rfl) (fun _ _ _ h => h) (Or.inl ⟨by rfl, ?hy3⟩) (by assumption) ?rest3
          case hy3 => (intro w hSw; (try dsimp only at hSw); go_simp; try with_reducible rfl)
          try simp only [Act.put, List.getElem_toArray, List.getElem_cons_zero, List.getElem_cons_succ, List.setIfInBounds_toArray, List.set_cons_zero, List.set_cons_succ]
          refine wpAnyH_take (i := 3) (v := ?v4) rfl (by kernel_rfl) (by kernel_rfl) (by kernel_rfl) (fun _ _ _ h => h) (Or.inl ⟨by rfl, ?hy4⟩) (by assumption) ?rest4
          case hy4 => (intro w hSw; (try dsimp only at hSw); go_simp; try with_reducible rfl)
          try simp only [Act.put, List.getElem_toArray, List.getElem_cons_zero, List.getElem_cons_succ, List.setIfInBounds_toArray, List.set_cons_zero, List.set_cons_succ]
          refine wpAnyH_take (i := 4) (v := ?v5) rfl (by kernel_rfl) (by kernel_rfl) (by kernel_rfl) (fun _ _ _ h => h) (Or.inl ⟨by rfl, ?hy5⟩) (by assumption) ?rest5
          case hy5 => (intro w hSw; (try dsimp only at hSw); go_simp; try with_reducible rfl)
          try simp only [Act.put, List.getElem_toArray, List.getElem_cons_zero, List.getElem_cons_succ, List.setIfInBounds_toArray, List.set_cons_zero, List.set_cons_succ]
          refine wpAnyH_take (i := 6) (v := ?v6) rfl (by kernel_rfl) (by kernel_rfl) (by kernel_rfl) (fun _ _ _ h => h) (Or.inl ⟨by rfl, ?hy6⟩) (by assumption) ?rest6
          case hy6 => (intro w hSw; (try dsimp only at hSw); go_simp; try with_reducible rfl)
          try simp only [Act.put, List.getElem_toArray, List.getElem_cons_zero, List.getElem_cons_succ, List.setIfInBounds_toArray, List.set_cons_zero, List.set_cons_succ]
          refine wpAnyH_take (i := 7) (v := ?v7) rfl (by kernel_rfl) (by kernel_rfl) (by kernel_rfl) (fun _ _ _ h => h) (Or.inl ⟨by rfl, ?hy7⟩) (by assumption) ?rest7
          case hy7 => (intro w hSw; (try dsimp only at hSw); go_simp; try with_reducible rfl)
          try simp only [Act.put, List.getElem_toArray, List.getElem_cons_zero, List.getElem_cons_succ, List.setIfInBounds_toArray, List.set_cons_zero, List.set_cons_succ]
          refine wpAnyH_take (i := 8) (v := ?v8) rfl (by kernel_rfl) (by kernel_rfl) (by kernel_rfl) (fun _ _ _ h => h) (Or.inl ⟨by rfl, ?hy8⟩) (by assumption) ?rest8
          case hy8 => (intro w hSw; (try dsimp only at hSw); go_simp; try with_reducible rfl)
          try simp only [Act.put, List.getElem_toArray, List.getElem_cons_zero, List.getElem_cons_succ, List.setIfInBounds_toArray, List.set_cons_zero, List.set_cons_succ]
          refine wpAnyH_take (i := 9) (v := ?v9) rfl (by kernel_rfl) (by kernel_rfl) (by kernel_rfl) (fun _ _ _ h => h) (Or.inl ⟨by rfl, ?hy9⟩) (by assumption) ?rest9
          case hy9 => (intro w hSw; (try dsimp only at hSw); go_simp; try with_reducible rfl)
          try simp only [Act.put, List.getElem_toArray, List.getElem_cons_zero, List.getElem_cons_succ, List.setIfInBounds_toArray, List.set_cons_zero, List.set_cons_succ]
          refine wpAnyH_take (i := 10) (v := ?v10) rfl (by kernel_rfl) (by kernel_rfl) (by kernel_rfl) (fun _ _ _ h => h) (Or.inl ⟨by rfl, ?hy10⟩) (by assumption) ?rest10
          case hy10 => (intro w hSw; (try dsimp only at hSw); go_simp; try with_reducible rfl)
          try simp only [Act.put, List.getElem_toArray, List.getElem_cons_zero, List.getElem_cons_succ, List.setIfInBounds_toArray, List.set_cons_zero, List.set_cons_succ]
          refine wpAnyH_take (i := 11) (v := ?v11) rfl (by kernel_rfl) (by kernel_rfl) (by kernel_rfl) (fun _ _ _ h => h) (Or.inl ⟨by rfl, ?hy11⟩) (by assumption) ?rest11
          case hy11 => (intro w hSw; (try dsimp only at hSw); go_simp; try with_reducible rfl)
          try simp only [Act.put, List.getElem_toArray, List.getElem_cons_zero, List.getElem_cons_succ, List.setIfInBounds_toArray, List.set_cons_zero, List.set_cons_succ]
          refine wpAnyH_take (i := 12) (v := ?v12) rfl (by kernel_rfl) (by kernel_rfl) (by kernel_rfl) (fun _ _ _ h => h) (Or.inl ⟨by rfl, ?hy12⟩) (by assumption) ?rest12
          case hy12 => (intro w hSw; (try dsimp only at hSw); go_simp; try with_reducible rfl)
          try simp only [Act.put, List.getElem_toArray, List.getElem_cons_zero, List.getElem_cons_succ, List.setIfInBounds_toArray, List.set_cons_zero, List.set_cons_succ]
          refine wpAnyH_ready (rs := [5, 13]) (by kernel_rfl) (by simp) ?_
          refine ready_cons ({ dst := some 30, op := Op.load 27 (Operand.tmp 29), type := 27, pos := "ref.go:60", after := #[{ on := 4, ground := Ground.data }], guard := none }) rfl rfl (fun K hK => ?_) ?_
          · clear hHeld
            obtain ⟨d0, _⟩ := HR0.out.cell (v := v) hlt
            refine wp_val (v := ?vl100) (w2 := V0) ?hl100 ?_
            case hl100 => (go_simp; try with_reducible rfl)
            clear d0
            refine hK.out _ _ (by first | with_reducible exact ⟨s0, s1⟩ | (dsimp only; with_reducible exact ⟨s0, s1⟩) | exact ⟨cell_other s0 hk0, cell_other s1 hk1⟩) (fun hHeld => ?_)
            clear hK K
            try simp only [Act.put, List.setIfInBounds_toArray, List.set_cons_zero, List.set_cons_succ]
            refine wpAnyH_ready (rs := [13]) (by kernel_rfl) (by simp) ?_
            refine ready_cons ({ dst := some 38, op := Op.buildSlice 27 1 #[(0, Operand.tmp 37)], type := 27, pos := "ref.go:60", after := #[{ on := 12, ground := Ground.data }], guard := none }) rfl rfl (fun K hK => ?_) ?_
            · clear hHeld
              go_simp
              obtain ⟨V1, hV⟩ : ∃ V, V = V0.alloc (.cells #[.int .i64 (x)] 3) := ⟨_, rfl⟩
              obtain ⟨kl, hkl⟩ : ∃ k, V0.heap.size = k := ⟨_, rfl⟩
              have hb2 : Below V0.heap.size V0 V1 := by rw [hV]; go_grown
              have HL1 : Hid (V1.cell? ⟨kl, 0, none⟩ = some (.int .i64 (x))) := by show _ = _; rw [hV, ← hkl]; exact one_int _ _
              rw [← hV, hkl]
              have HB1 := hide (below_step HB0.out hb2)
              have HR1 := hide (HR0.out.later hb2)
              clear hV hb2 hkl
              clear s0 s1
              obtain ⟨s0, s1⟩ := HS.out _ HB1.out
              refine hK.out _ _ (by first | with_reducible exact ⟨s0, s1⟩ | (dsimp only; with_reducible exact ⟨s0, s1⟩) | exact ⟨cell_other s0 hk0, cell_other s1 hk1⟩) (fun hHeld => ?_)
              clear hK K
              try simp only [Act.put, List.getElem_toArray, List.getElem_cons_zero, List.getElem_cons_succ, List.setIfInBounds_toArray, List.set_cons_zero, List.set_cons_succ]
              refine wpAnyH_ready (rs := [14]) (by kernel_rfl) (by simp) ?_
              refine ready_cons ({ dst := some 39, op := Op.call { callee := Callee.builtin Builtin.append, args := #[Operand.tmp 30, Operand.tmp 38], argTypes := #[27, 27] }, type := 27, pos := "ref.go:60", after := #[{ on := 5, ground := Ground.data }, { on := 13, ground := Ground.data }], guard := none }) rfl rfl (fun K hK => ?_) ?_
              · clear hHeld
                have hrx := HR1.out.2.2 v hlt
                obtain ⟨v1, V2, e4, o4, gr4, at4⟩ := append_int hrx HL1.out (by have := HB1.out.size; have := HSZ.out.1; have := HSZ.out.2.1; omega) (by rw [mrN_at, List.length_take, List.length_reverse]; have := HLA.out; omega)
                obtain ⟨p1, l1, c1, rfl⟩ : ∃ p1 l1 c1, v1 = .slice p1 l1 c1 := by obtain ⟨p1, c1, h1, _⟩ := o4.form; exact ⟨_, _, _, h1⟩
                have HB2 : Hid (Below wb.heap.size wb V2) := below_grown HB1.out hrx (by have := HSZ.out.1; have := HSZ.out.2.1; omega) HB1.out.size gr4
                have HR2 := hide (HR1.out.put hlt o4 gr4 at4)
                clear s0 s1
                obtain ⟨s0, s1⟩ := HS.out _ HB2.out
                have HE2 : Hid (g < V2.heap.size ∧ V2.cell? ⟨g, v, none⟩ = some (rv v) ∧ V2.frozen? ⟨g, v, none⟩ = false) := hide (Rows.slot HR1.out hlt gr4)
                refine oper_append (.tmp 30) (.tmp 38) 27 rfl 27 rfl (rv v) (.slice (some ⟨kl, 0, none⟩) 1 1) (.slice p1 l1 c1) V2 (by rfl) (by rfl) ?_ ?_
                with_reducible exact e4
                clear hrx o4 gr4 at4 e4
                refine hK.out _ _ (by first | with_reducible exact ⟨s0, s1⟩ | (dsimp only; with_reducible exact ⟨s0, s1⟩) | exact ⟨cell_other s0 hk0, cell_other s1 hk1⟩) (fun hHeld => ?_)
                clear hK K
                try simp only [Act.put, List.setIfInBounds_toArray, List.set_cons_zero, List.set_cons_succ]
                refine wpAnyH_take (i := 15) (v := ?v13) rfl (by kernel_rfl) (by kernel_rfl) (by kernel_rfl) (fun _ _ _ h => h) (Or.inl ⟨by rfl, ?hy13⟩) (by assumption) ?rest13
                case hy13 => (intro w hSw; (try dsimp only at hSw); go_simp; try with_reducible rfl)
                try simp only [Act.put, List.getElem_toArray, List.getElem_cons_zero, List.getElem_cons_succ, List.setIfInBounds_toArray, List.set_cons_zero, List.set_cons_succ]
                refine wpAnyH_ready (rs := [16]) (by kernel_rfl) (by simp) ?_
                refine ready_cons ({ dst := none, op := Op.store 27 (Operand.tmp 40) (Operand.tmp 39), type := 0, pos := "ref.go:60", after := #[{ on := 15, ground := Ground.data }, { on := 14, ground := Ground.data }, { on := 14, ground := Ground.chain }, { on := 0, ground := Ground.phase }, { on := 1, ground := Ground.phase }, { on := 2, ground := Ground.phase }, { on := 3, ground := Ground.phase }, { on := 4, ground := Ground.phase }, { on := 5, ground := Ground.phase }, { on := 6, ground := Ground.phase }, { on := 7, ground := Ground.phase }, { on := 8, ground := Ground.phase }, { on := 9, ground := Ground.phase }, { on := 10, ground := Ground.phase }, { on := 11, ground := Ground.phase }, { on := 12, ground := Ground.phase }, { on := 13, ground := Ground.phase }, { on := 14, ground := Ground.phase }], guard := none }) rfl rfl (fun K hK => ?_) ?_
                · clear hHeld
                  obtain ⟨hgl, d0, e0⟩ := HE2.out
                  go_simp
                  clear d0 e0
                  refine hK.out _ _ (by first | with_reducible exact ⟨s0, s1⟩ | (dsimp only; with_reducible exact ⟨s0, s1⟩) | exact ⟨cell_other s0 hk0, cell_other s1 hk1⟩) (fun hHeld => ?_)
                  clear hK K
                  try simp only [Act.put, List.getElem_toArray, List.getElem_cons_zero, List.getElem_cons_succ, List.setIfInBounds_toArray, List.set_cons_zero, List.set_cons_succ]
                  refine wpAnyH_done (by kernel_rfl) ?_ _
                  clear hHeld
                  obtain ⟨V5, hV5⟩ : ∃ V, V = V2.setCell ⟨g, v, none⟩ (.slice p1 l1 c1) := ⟨_, rfl⟩
                  have HB5 : Hid (Below wb.heap.size wb V5) := by show Below _ _ _; rw [hV5]; exact HB2.out.setCell (p := ⟨g, v, none⟩) (show wb.heap.size ≤ g by have := HSZ.out.1; have := HSZ.out.2.1; omega) _
                  rw [← hV5] at HR2
                  rw [← hV5]
                  have HR6 := hide (HST.out _ _ HR2.out)
                  clear hV5 HE2 HB0 HR0 HB1 HR1 HB2 HR2 s0 s1
                  go_wp2
                  go_roundw
                  case rel => exact ⟨t + 1, _, by omega, by have := HKK.out; congr 1; omega, HB5.out, HR6.out⟩
                  case measure => simp [intOf] <;> omega
                exact AllReadyH.nil
              exact AllReadyH.nil
            exact AllReadyH.nil
          refine ready_cons ({ dst := some 38, op := Op.buildSlice 27 1 #[(0, Operand.tmp 37)], type := 27, pos := "ref.go:60", after := #[{ on := 12, ground := Ground.data }], guard := none }) rfl rfl (fun K hK => ?_) ?_
          · clear hHeld
            go_simp
            obtain ⟨V1, hV⟩ : ∃ V, V = V0.alloc (.cells #[.int .i64 (x)] 3) := ⟨_, rfl⟩
            obtain ⟨kl, hkl⟩ : ∃ k, V0.heap.size = k := ⟨_, rfl⟩
            have hb2 : Below V0.heap.size V0 V1 := by rw [hV]; go_grown
            have HL1 : Hid (V1.cell? ⟨kl, 0, none⟩ = some (.int .i64 (x))) := by show _ = _; rw [hV, ← hkl]; exact one_int _ _
            rw [← hV, hkl]
            have HB1 := hide (below_step HB0.out hb2)
            have HR1 := hide (HR0.out.later hb2)
            clear hV hb2 hkl
            clear s0 s1
            obtain ⟨s0, s1⟩ := HS.out _ HB1.out
            refine hK.out _ _ (by first | with_reducible exact ⟨s0, s1⟩ | (dsimp only; with_reducible exact ⟨s0, s1⟩) | exact ⟨cell_other s0 hk0, cell_other s1 hk1⟩) (fun hHeld => ?_)
            clear hK K
            try simp only [Act.put, List.getElem_toArray, List.getElem_cons_zero, List.getElem_cons_succ, List.setIfInBounds_toArray, List.set_cons_zero, List.set_cons_succ]
            refine wpAnyH_ready (rs := [5]) (by kernel_rfl) (by simp) ?_
            refine ready_cons ({ dst := some 30, op := Op.load 27 (Operand.tmp 29), type := 27, pos := "ref.go:60", after := #[{ on := 4, ground := Ground.data }], guard := none }) rfl rfl (fun K hK => ?_) ?_
            · clear hHeld
              obtain ⟨d0, _⟩ := HR1.out.cell (v := v) hlt
              refine wp_val (v := ?vl101) (w2 := V1) ?hl101 ?_
              case hl101 => (go_simp; try with_reducible rfl)
              clear d0
              refine hK.out _ _ (by first | with_reducible exact ⟨s0, s1⟩ | (dsimp only; with_reducible exact ⟨s0, s1⟩) | exact ⟨cell_other s0 hk0, cell_other s1 hk1⟩) (fun hHeld => ?_)
              clear hK K
              try simp only [Act.put, List.setIfInBounds_toArray, List.set_cons_zero, List.set_cons_succ]
              refine wpAnyH_ready (rs := [14]) (by kernel_rfl) (by simp) ?_
              refine ready_cons ({ dst := some 39, op := Op.call { callee := Callee.builtin Builtin.append, args := #[Operand.tmp 30, Operand.tmp 38], argTypes := #[27, 27] }, type := 27, pos := "ref.go:60", after := #[{ on := 5, ground := Ground.data }, { on := 13, ground := Ground.data }], guard := none }) rfl rfl (fun K hK => ?_) ?_
              · clear hHeld
                have hrx := HR1.out.2.2 v hlt
                obtain ⟨v1, V2, e4, o4, gr4, at4⟩ := append_int hrx HL1.out (by have := HB1.out.size; have := HSZ.out.1; have := HSZ.out.2.1; omega) (by rw [mrN_at, List.length_take, List.length_reverse]; have := HLA.out; omega)
                obtain ⟨p1, l1, c1, rfl⟩ : ∃ p1 l1 c1, v1 = .slice p1 l1 c1 := by obtain ⟨p1, c1, h1, _⟩ := o4.form; exact ⟨_, _, _, h1⟩
                have HB2 : Hid (Below wb.heap.size wb V2) := below_grown HB1.out hrx (by have := HSZ.out.1; have := HSZ.out.2.1; omega) HB1.out.size gr4
                have HR2 := hide (HR1.out.put hlt o4 gr4 at4)
                clear s0 s1
                obtain ⟨s0, s1⟩ := HS.out _ HB2.out
                have HE2 : Hid (g < V2.heap.size ∧ V2.cell? ⟨g, v, none⟩ = some (rv v) ∧ V2.frozen? ⟨g, v, none⟩ = false) := hide (Rows.slot HR1.out hlt gr4)
                refine oper_append (.tmp 30) (.tmp 38) 27 rfl 27 rfl (rv v) (.slice (some ⟨kl, 0, none⟩) 1 1) (.slice p1 l1 c1) V2 (by rfl) (by rfl) ?_ ?_
                with_reducible exact e4
                clear hrx o4 gr4 at4 e4
                refine hK.out _ _ (by first | with_reducible exact ⟨s0, s1⟩ | (dsimp only; with_reducible exact ⟨s0, s1⟩) | exact ⟨cell_other s0 hk0, cell_other s1 hk1⟩) (fun hHeld => ?_)
                clear hK K
                try simp only [Act.put, List.setIfInBounds_toArray, List.set_cons_zero, List.set_cons_succ]
                refine wpAnyH_take (i := 15) (v := ?v14) rfl (by kernel_rfl) (by kernel_rfl) (by kernel_rfl) (fun _ _ _ h => h) (Or.inl ⟨by rfl, ?hy14⟩) (by assumption) ?rest14
                case hy14 => (intro w hSw; (try dsimp only at hSw); go_simp; try with_reducible rfl)
                try simp only [Act.put, List.getElem_toArray, List.getElem_cons_zero, List.getElem_cons_succ, List.setIfInBounds_toArray, List.set_cons_zero, List.set_cons_succ]
                refine wpAnyH_ready (rs := [16]) (by kernel_rfl) (by simp) ?_
                refine ready_cons ({ dst := none, op := Op.store 27 (Operand.tmp 40) (Operand.tmp 39), type := 0, pos := "ref.go:60", after := #[{ on := 15, ground := Ground.data }, { on := 14, ground := Ground.data }, { on := 14, ground := Ground.chain }, { on := 0, ground := Ground.phase }, { on := 1, ground := Ground.phase }, { on := 2, ground := Ground.phase }, { on := 3, ground := Ground.phase }, { on := 4, ground := Ground.phase }, { on := 5, ground := Ground.phase }, { on := 6, ground := Ground.phase }, { on := 7, ground := Ground.phase }, { on := 8, ground := Ground.phase }, { on := 9, ground := Ground.phase }, { on := 10, ground := Ground.phase }, { on := 11, ground := Ground.phase }, { on := 12, ground := Ground.phase }, { on := 13, ground := Ground.phase }, { on := 14, ground := Ground.phase }], guard := none }) rfl rfl (fun K hK => ?_) ?_
                · clear hHeld
                  obtain ⟨hgl, d0, e0⟩ := HE2.out
                  go_simp
                  clear d0 e0
                  refine hK.out _ _ (by first | with_reducible exact ⟨s0, s1⟩ | (dsimp only; with_reducible exact ⟨s0, s1⟩) | exact ⟨cell_other s0 hk0, cell_other s1 hk1⟩) (fun hHeld => ?_)
                  clear hK K
                  try simp only [Act.put, List.getElem_toArray, List.getElem_cons_zero, List.getElem_cons_succ, List.setIfInBounds_toArray, List.set_cons_zero, List.set_cons_succ]
                  refine wpAnyH_done (by kernel_rfl) ?_ _
                  clear hHeld
                  obtain ⟨V5, hV5⟩ : ∃ V, V = V2.setCell ⟨g, v, none⟩ (.slice p1 l1 c1) := ⟨_, rfl⟩
                  have HB5 : Hid (Below wb.heap.size wb V5) := by show Below _ _ _; rw [hV5]; exact HB2.out.setCell (p := ⟨g, v, none⟩) (show wb.heap.size ≤ g by have := HSZ.out.1; have := HSZ.out.2.1; omega) _
                  rw [← hV5] at HR2
                  rw [← hV5]
                  have HR6 := hide (HST.out _ _ HR2.out)
                  clear hV5 HE2 HB0 HR0 HB1 HR1 HB2 HR2 s0 s1
                  go_wp2
                  go_roundw
                  case rel => exact ⟨t + 1, _, by omega, by have := HKK.out; congr 1; omega, HB5.out, HR6.out⟩
                  case measure => simp [intOf] <;> omega
                exact AllReadyH.nil
              exact AllReadyH.nil
            exact AllReadyH.nil
          exact AllReadyH.nil
        · have hte : t = la := by omega
          have HR9 : Hid (Rows wr w.heap.size g rs.length rv (mrN rs (v + 1) 0)) := HRj.out.congr fun u _ => mrN_next (by rw [HLA.out]; exact hte) u
          have k2 : ¬ ((la : Int) - 1 - t) ≥ 0 := by omega
          clear HRj hte
          go_wp2
          go_roundw
          case rel => exact ⟨v + 1, _, by omega, by go_num, HBj.out, HR9.out⟩
          case measure => simp [intOf]; omega
    · have hve : v = rs.length := by omega
      have e1 : ¬ (v : Int) < rs.length := by omega
      have HRM : Hid (RHas wr (some ⟨g, 0, none⟩) (rs.map List.reverse)) := by
        refine HRr.out.has (by simp) (fun u hu => ?_) (fun u hu => ?_)
        · rw [lat_map _ hu]; unfold mrN; rw [if_pos (by omega)]
        · rw [lat_map _ hu, List.length_reverse]; have := HLL.out u hu; unfold maxLen; omega
      have CN := hide (canon49 (some ⟨g, 0, none⟩) (rs.map List.reverse) rs.length wr HRM.out (by simp; omega) (fun u hu => by rw [List.length_map] at hu; rw [lat_map _ hu, List.length_reverse]; exact HLL.out u hu))
      rw [List.length_map] at CN
      clear hve
      go_wp2_with fail
      refine CN.out.mono ?_
      rintro r w9 ⟨g9, rv9, rfl, hr9, hb9⟩
      have HBE : Hid (Below w.heap.size w w9) := by show Below _ _ _; have := below_step HBr.out hb9; rw [HSZ.out.2.2] at this; exact this
      have HRE : Hid (Rows w9 w.heap.size g9 rs.length rv9 (fun v => lat (mirrorL rs) v)) := by
        refine (hr9.base (by have := HBr.out.size; have := HSZ.out.1; omega)).congr fun u hu => ?_
        rw [lat_mirror hu, lat_map _ hu]
      clear hr9 hb9 CN HRM HRr HBr
      go_wp2
      go_ret
      exact ⟨g9, rv9, rfl, HRE.out, HBE.out⟩
end Go.Proofs.Ytllkadgpkbaghaa
