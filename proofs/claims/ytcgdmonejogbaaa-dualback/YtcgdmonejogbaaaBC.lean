/- DualBack: its walk. -/
import Derived.Test.YtcgdmonejogbaaaW3
import Derived.Test.YtcgdmonejogbaaaS3
import Derived.Test.YtcgdmonejogbaaaD3
/- DualBack: what stands behind a number in a list. -/
namespace Go.Proofs.Ytcgdmonejogbaaa
open Go.RowKit Go.Sort
open Go
set_option maxRecDepth 100000 in
set_option maxHeartbeats 8000000 in
theorem behind34 (p : Option Addr) (l : List Int) (cp : Nat) (x : Int) (w : World) (hl : l.length ≤ 1000000) (h : IHas w p l) (hx : x ∈ l) : Calls Try.prog 34 #[.slice p l.length cp, .int .i64 x] w fun e w' => e = .returned (.int .i64 (iat l ((l.idxOf x + 1) % l.length))) ∧ Below w.heap.size w w' := by
  obtain ⟨h1, h2, h3⟩ := idxOf_at hx
  obtain ⟨k0, hk0⟩ : ∃ k, l.idxOf x = k := ⟨_, rfl⟩
  rw [hk0] at h1 h2 h3 ⊢
  rcases h with hn | ⟨b, off, rfl, hL⟩
  · rw [hn] at h1; simp at h1
  have HL := hide hL
  have H2 := hide h2
  have H3 := hide h3
  clear hL h2 h3 hk0 hx
  go_enter Try.func34, Try.ntmps34
  go_wp2_with fail
  go_loopw [5] (fun t5 wr => ∃ k : Nat, k ≤ k0 ∧ t5 = .int .i64 k ∧ Hid (Below w.heap.size w wr)) (fun t5 _ => l.length - (intOf t5).toNat)
  case atStart => exact ⟨0, by omega, rfl, Below.refl _ _⟩
  case round =>
    obtain ⟨k, hk, rfl, HBr⟩ := hrel
    have c0 := later HBr.out (HL.out k (by omega))
    have e1 : (k : Int) < l.length := by omega
    by_cases hke : k = k0
    · have hy : iat l k = x := by rw [hke]; exact H2.out
      rw [hy] at c0
      have hm : (k + 1) % l.length < l.length := Nat.mod_lt _ (by omega)
      have c1 := later HBr.out (HL.out ((k + 1) % l.length) hm)
      obtain ⟨q, hq⟩ : ∃ q, (k + 1) % l.length = q := ⟨_, rfl⟩
      rw [hq] at c1 hm
      have HQ : Hid ((k0 + 1) % l.length = q) := by show _ = _; rw [← hke]; exact hq
      have n0 : ¬ l.length = 0 := by omega
      have n1 : ¬ (l.length : Int) = 0 := by omega
      have d1 : IntKind.i64.wrap ((k : Int) + 1) = k + 1 := by rw [IntKind.wrap_i64]; omega
      have d2 : Int.tmod ((k : Int) + 1) l.length = q := by
        rw [← hq, show ((k : Int) + 1) = ((k + 1 : Nat) : Int) from by omega]
        exact (Int.ofNat_tmod _ _).symm
      have e2 : (q : Int) < l.length := by omega
      clear hq hy hke
      go_wp2
      go_ret
      exact ⟨by rw [HQ.out]; rfl, HBr.out⟩
    · have hy : iat l k ≠ x := H3.out k (by omega)
      obtain ⟨y, hyy⟩ : ∃ y, iat l k = y := ⟨_, rfl⟩
      rw [hyy] at c0 hy
      have t1 : (y == x) = false := by simp [hy]
      clear hyy
      go_wp2
      go_roundw
      case rel => exact ⟨k + 1, by omega, by go_num, HBr.out⟩
      case measure => simp [intOf]; omega
end Go.Proofs.Ytcgdmonejogbaaa

/- Pure: the dual of a rotation: its faces are the nodes' lists, it has as many components and the same genus. -/
namespace Go.Proofs.Ytcgdmonejogbaaa
open Go.RowKit Go.Sort
open Go
variable {n : Nat} {es : List Pt} {rs : List (List Int)}
theorem conn_none {es : List Pt} {rs : List (List Int)} (h : holdsP es rs) {v : Nat} (hv : (lat rs v).length = 0) {u : Nat} (hc : Conn es v u) : u = v := by
  induction hc with
  | refl => rfl
  | step _ h1 h2 _ ih =>
    exfalso
    rw [ih] at h2
    obtain ⟨w, i, hw, hi, e⟩ := half_in h h1
    have := ((holds_iff.1 h).1 w hw _ (iat_mem hi)).2.2
    rw [e, Int.toNat_natCast, h2] at this
    have : v = w := by omega
    subst this
    omega
/-- The dual's edges. -/
def duE (es : List Pt) (rs : List (List Int)) : List Pt := dEs (ofL es rs) es.length
theorem duE_length : (duE es rs).length = es.length := dEs_length _ _
theorem duE_at {j : Nat} (hj : j < es.length) : at' (duE es rs) j = ⟨iat (ofL es rs) (2 * j), iat (ofL es rs) (2 * j + 1)⟩ := by
  unfold duE dEs at'
  rw [List.getD_eq_getElem?_getD, List.getElem?_map, List.getElem?_range hj]
  rfl
theorem dual_from {x : Nat} (hx : x < 2 * es.length) : fromL (duE es rs) x = iat (ofL es rs) x := by
  unfold fromL
  rw [duE_at (by omega)]
  split
  · show iat _ (2 * (x / 2)) = _
    rw [show 2 * (x / 2) = x by omega]
  · show iat _ (2 * (x / 2) + 1) = _
    rw [show 2 * (x / 2) + 1 = x by omega]
theorem dual_holds (h : holdsP es rs) : holdsP (duE es rs) (facesL es rs) := by
  obtain ⟨f1, f2⟩ := faces_flat h
  refine holds_iff.2 ⟨fun v hv x hx => ?_, f1, by rw [duE_length]; exact f2⟩
  obtain ⟨k, hk, ek⟩ := mem_iat hx
  obtain ⟨y, y1, y2, y3⟩ := of_face h hv hk
  rw [ek] at y1
  subst y1
  rw [duE_length]
  exact ⟨by omega, by omega, by rw [Int.toNat_natCast, dual_from y2]; exact y3⟩
/-- What comes next along the dual's faces. -/
theorem dual_next (h : holdsP es rs) {x : Nat} (hx : x < 2 * es.length) : fT (duE es rs) (facesL es rs) (tw x) = fT es rs x := by
  obtain ⟨f, j, hf, hj, e1, _, e3⟩ := real_at (dual_holds h) (x := x) (by rw [duE_length]; exact hx)
  obtain ⟨x', u, i, a1, _, _, _, hu, hi, a2, a3⟩ := on_face h hf hj
  rw [e1] at a1
  have : x' = x := by omega
  subst this
  have k := fT_at h hu hi
  rw [a2, Int.toNat_natCast, tw_tw] at k
  rw [e3, a3, k]
theorem dual_sig (h : holdsP es rs) {u i : Nat} (hu : u < rs.length) (hi : i < (lat rs u).length) : fT (duE es rs) (facesL es rs) (iat (lat rs u) i).toNat = (iat (lat rs u) ((i + 1) % (lat rs u).length)).toNat := by
  have b := real_in h hu hi
  have k := dual_next h (x := tw (iat (lat rs u) i).toNat) (tw_lt (by omega))
  rw [tw_tw] at k
  rw [k, fT_at h hu hi]
theorem dual_prm (h : holdsP es rs) : Prm (2 * es.length) (fT (duE es rs) (facesL es rs)) := by
  have := real_prm (dual_holds h)
  rw [duE_length] at this
  exact this
theorem sig_it (h : holdsP es rs) {u i : Nat} (hu : u < rs.length) (hi : i < (lat rs u).length) : ∀ t, it (fT (duE es rs) (facesL es rs)) t (iat (lat rs u) i).toNat = (iat (lat rs u) ((i + t) % (lat rs u).length)).toNat
  | 0 => by
    show (iat (lat rs u) i).toNat = _
    rw [Nat.add_zero, Nat.mod_eq_of_lt hi]
  | t + 1 => by
    show fT _ _ (it _ t _) = _
    rw [sig_it h hu hi t, dual_sig h hu (Nat.mod_lt _ (by omega))]
    congr 2
    rw [Nat.mod_add_mod, Nat.add_assoc]
theorem turn_to {i j l : Nat} (hi : i < l) (hj : j < l) : (i + (j + l - i)) % l = j := by
  rw [show i + (j + l - i) = j + l by omega, Nat.add_mod_right, Nat.mod_eq_of_lt hj]
/-- The dual's faces are what leaves one node. -/
theorem dual_orb (h : holdsP es rs) {x y : Nat} (hx : x < 2 * es.length) (hy : y < 2 * es.length) : Orb (fT (duE es rs) (facesL es rs)) x y ↔ fromL es x = fromL es y := by
  have P := dual_prm h
  constructor
  · rintro ⟨k, rfl⟩
    clear hy
    induction k with
    | zero => rfl
    | succ k ih =>
      rw [ih]
      have hz := P.it_lt hx k
      obtain ⟨z, hzz⟩ : ∃ z, it (fT (duE es rs) (facesL es rs)) k x = z := ⟨_, rfl⟩
      show fromL es (it _ k x) = fromL es (fT _ _ (it _ k x))
      rw [hzz] at hz ⊢
      obtain ⟨u, i, hu, hi, e1, _⟩ := real_at h hz
      have k1 := dual_sig h hu hi
      rw [e1, Int.toNat_natCast] at k1
      have b1 := (real_in h hu hi).2.2
      have b2 := (real_in h hu (show (i + 1) % (lat rs u).length < (lat rs u).length from Nat.mod_lt _ (by omega))).2.2
      rw [e1, Int.toNat_natCast] at b1
      rw [k1, b1, b2]
  · intro e
    obtain ⟨u, i, hu, hi, e1, _⟩ := real_at h hx
    obtain ⟨v, j, hv, hj, e2, _⟩ := real_at h hy
    have b1 := (real_in h hu hi).2.2
    have b2 := (real_in h hv hj).2.2
    rw [e1, Int.toNat_natCast] at b1
    rw [e2, Int.toNat_natCast] at b2
    have : u = v := by omega
    subst this
    refine ⟨j + (lat rs u).length - i, ?_⟩
    have k := sig_it h hu hi (j + (lat rs u).length - i)
    rw [e1, Int.toNat_natCast, turn_to hi hj, e2, Int.toNat_natCast] at k
    exact k
/-- The nodes that have half-edges, numbered. -/
theorem full_enum (rs : List (List Int)) : ∀ v, ∃ (nv : Nat → Nat) (c : Nat), c + (emptyN rs v).length = v ∧ (∀ i, i < c → nv i < v ∧ 0 < (lat rs (nv i)).length) ∧ (∀ i j, i < c → j < c → nv i = nv j → i = j) ∧ ∀ u, u < v → 0 < (lat rs u).length → ∃ i, i < c ∧ nv i = u
  | 0 => ⟨id, 0, by simp [emptyN], fun i hi => by omega, fun i j hi => by omega, fun u hu => by omega⟩
  | v + 1 => by
    obtain ⟨nv, c, h1, h2, h3, h4⟩ := full_enum rs v
    by_cases h0 : (lat rs v).length = 0
    · have he : (emptyN rs (v + 1)).length = (emptyN rs v).length + 1 := by
        show (if (lat rs v).length = 0 then emptyN rs v ++ [[]] else emptyN rs v).length = _
        rw [if_pos h0]; simp
      refine ⟨nv, c, by omega, fun i hi => ⟨by have := (h2 i hi).1; omega, (h2 i hi).2⟩, h3, fun u hu hul => ?_⟩
      by_cases huv : u = v
      · subst huv; omega
      · exact h4 u (by omega) hul
    · have he : (emptyN rs (v + 1)).length = (emptyN rs v).length := by
        show (if (lat rs v).length = 0 then emptyN rs v ++ [[]] else emptyN rs v).length = _
        rw [if_neg h0]
      refine ⟨fun i => if i < c then nv i else v, c + 1, by omega, fun i hi => ?_, fun i j hi hj e => ?_, fun u hu hul => ?_⟩
      · show (if i < c then nv i else v) < v + 1 ∧ 0 < (lat rs (if i < c then nv i else v)).length
        split
        · rename_i hc; have := h2 i hc; exact ⟨by omega, this.2⟩
        · exact ⟨by omega, by omega⟩
      · have e : (if i < c then nv i else v) = (if j < c then nv j else v) := e
        split at e <;> split at e
        · exact h3 i j (by omega) (by omega) e
        · have := (h2 i (by omega)).1; omega
        · have := (h2 j (by omega)).1; omega
        · omega
      · by_cases huv : u = v
        · exact ⟨c, by omega, by show (if c < c then nv c else v) = u; rw [if_neg (by omega), huv]⟩
        · obtain ⟨i, hi, e⟩ := h4 u (by omega) hul
          exact ⟨i, by omega, by show (if i < c then nv i else v) = u; rw [if_pos hi, e]⟩
theorem face_full (h : holdsP es rs) {f : Nat} (hf : f < (edgeF es rs).length) : 0 < (lat (facesL es rs) f).length := by
  have el : lat (facesL es rs) f = lat (edgeF es rs) f := by unfold facesL; exact lat_app hf
  obtain ⟨a, p, _, _, hp, hl, _⟩ := (edge_ok h).fc f hf
  rw [el, hl, rd_len]
  exact hp
theorem empty_faces (h : holdsP es rs) : (emptyN (facesL es rs) (facesL es rs).length).length = (emptyN rs rs.length).length := by
  have a : ∀ v, v ≤ (edgeF es rs).length → (emptyN (facesL es rs) v).length = 0 := by
    intro v
    induction v with
    | zero => exact fun _ => rfl
    | succ v ih =>
      intro hv
      show (if (lat (facesL es rs) v).length = 0 then emptyN (facesL es rs) v ++ [[]] else emptyN (facesL es rs) v).length = 0
      have := face_full h (f := v) (by omega)
      rw [if_neg (by omega)]
      exact ih (by omega)
  have b : ∀ j, j ≤ (emptyN rs rs.length).length → (emptyN (facesL es rs) ((edgeF es rs).length + j)).length = j := by
    intro j
    induction j with
    | zero => exact fun _ => a _ (Nat.le_refl _)
    | succ j ih =>
      intro hj
      show (if (lat (facesL es rs) ((edgeF es rs).length + j)).length = 0 then emptyN (facesL es rs) ((edgeF es rs).length + j) ++ [[]] else emptyN (facesL es rs) ((edgeF es rs).length + j)).length = j + 1
      rw [lat_empty (by omega) (by unfold facesL; rw [List.length_append]; omega), if_pos (show ([] : List Int).length = 0 from rfl), List.length_append, ih (by omega)]
      rfl
  have e : (facesL es rs).length = (edgeF es rs).length + (emptyN rs rs.length).length := by unfold facesL; rw [List.length_append]
  rw [e]
  exact b _ (Nat.le_refl _)
theorem dual_count (h : holdsP es rs) : (facesL (duE es rs) (facesL es rs)).length = rs.length := by
  have H := dual_holds h
  have P := dual_prm h
  have R := edge_reps H
  rw [duE_length] at R
  obtain ⟨nv, c, h1, h2, h3, h4⟩ := full_enum rs rs.length
  have hin : ∀ i, i < c → 0 ≤ iat (lat rs (nv i)) 0 ∧ iat (lat rs (nv i)) 0 < 2 * es.length ∧ fromL es (iat (lat rs (nv i)) 0).toNat = nv i := fun i hi => real_in h (h2 i hi).1 (h2 i hi).2
  have hc : (edgeF (duE es rs) (facesL es rs)).length = c := by
    refine R.uniq P.eqv (r' := fun i => (iat (lat rs (nv i)) 0).toNat) ⟨fun i hi => by have := hin i hi; omega, fun i j hi hj hij => ?_, fun x hx => ?_⟩
    · have a := hin i hi
      have b := hin j hj
      have := (dual_orb h (by omega) (by omega)).1 hij
      rw [a.2.2, b.2.2] at this
      exact h3 i j hi hj (by omega)
    · obtain ⟨u, i, hu, hi, e1, _⟩ := real_at h hx
      obtain ⟨k, hk, ek⟩ := h4 u hu (by omega)
      have a := hin k hk
      refine ⟨k, hk, (dual_orb h hx (by omega)).2 ?_⟩
      have b := (real_in h hu hi).2.2
      rw [e1, Int.toNat_natCast] at b
      rw [b, a.2.2, ek]
  have e : (facesL (duE es rs) (facesL es rs)).length = (edgeF (duE es rs) (facesL es rs)).length + (emptyN (facesL es rs) (facesL es rs).length).length := by
    show (edgeF (duE es rs) (facesL es rs) ++ emptyN (facesL es rs) (facesL es rs).length).length = _
    rw [List.length_append]
  rw [e, hc, empty_faces h]
  exact h1
/-- Components, counted by half-edges. -/
theorem comp_halves (h : holdsP es rs) (hl : rs.length = n) (hm : netB n es = true) {s : Nat → Nat} {d : Nat} (R : Reps (2 * es.length) (fun x y => Conn es (fromL es x).toNat (fromL es y).toNat) s d) : compN n es = d + (emptyN rs n).length := by
  obtain ⟨ev, v1, v2, v3⟩ := empty_enum rs n
  obtain ⟨r, C⟩ := comp_reps hm
  have hfr : ∀ x, x < 2 * es.length → ∃ u, fromL es x = (u : Nat) ∧ u < n ∧ 0 < (lat rs u).length := fun x hx => by
    obtain ⟨u, i, hu, hi, e1, _⟩ := real_at h hx
    have := (real_in h hu hi).2.2
    rw [e1, Int.toNat_natCast] at this
    exact ⟨u, this, by omega, by omega⟩
  have apart : ∀ x k, x < 2 * es.length → k < (emptyN rs n).length → ¬ Conn es (ev k) (fromL es x).toNat := fun x k hx hk hc => by
    obtain ⟨u, e, hu, hul⟩ := hfr x hx
    have hv := v1 k hk
    have := conn_none h (v := ev k) (by rw [hv.2]; rfl) hc
    rw [e, Int.toNat_natCast] at this
    rw [this, hv.2] at hul
    simp at hul
  refine C.uniq ⟨fun a _ => Conn.refl a, fun a b _ _ h => h.symm, fun a b c _ _ _ h k => h.trans k⟩ (r' := fun i => if i < d then (fromL es (s i)).toNat else ev (i - d)) ⟨fun i hi => ?_, fun i j hi hj hij => ?_, fun x hx => ?_⟩
  · show (if i < d then (fromL es (s i)).toNat else ev (i - d)) < n
    split
    · rename_i hd
      obtain ⟨u, e, hu, _⟩ := hfr _ (R.lt i hd)
      rw [e, Int.toNat_natCast]; exact hu
    · exact (v1 (i - d) (by omega)).1
  · have hij : Conn es (if i < d then (fromL es (s i)).toNat else ev (i - d)) (if j < d then (fromL es (s j)).toNat else ev (j - d)) := hij
    split at hij <;> split at hij
    · exact R.sep i j (by omega) (by omega) hij
    · exact absurd hij.symm (apart _ _ (R.lt i (by omega)) (by omega))
    · exact absurd hij (apart _ _ (R.lt j (by omega)) (by omega))
    · have := conn_none h (v := ev (i - d)) (by rw [(v1 (i - d) (by omega)).2]; rfl) hij
      have := v2 (i - d) (j - d) (by omega) (by omega) this.symm
      omega
  · by_cases h0 : (lat rs x).length = 0
    · obtain ⟨i, hi, e⟩ := v3 x hx (List.eq_nil_of_length_eq_zero h0)
      refine ⟨d + i, by omega, ?_⟩
      show Conn es x (if d + i < d then (fromL es (s (d + i))).toNat else ev (d + i - d))
      rw [if_neg (by omega), show d + i - d = i by omega, e]
      exact Conn.refl _
    · have b := real_in h (u := x) (i := 0) (by omega) (by omega)
      obtain ⟨i, hi, e⟩ := R.all (iat (lat rs x) 0).toNat (by omega)
      refine ⟨i, by omega, ?_⟩
      show Conn es x (if i < d then (fromL es (s i)).toNat else ev (i - d))
      rw [if_pos hi]
      rw [b.2.2, Int.toNat_natCast] at e
      exact e
/-- What holds along an edge and round a node holds wherever nodes are joined. -/
theorem conn_gen (h : holdsP es rs) {Kr : Nat → Nat → Prop} (k0 : ∀ x, Kr x x) (kt : ∀ x y z, Kr x y → Kr y z → Kr x z) (k1 : ∀ x, x < 2 * es.length → Kr x (tw x)) (k2 : ∀ x, x < 2 * es.length → Kr x (fT es rs (tw x))) {a b : Nat} (hc : Conn es a b) : ∀ x y, x < 2 * es.length → y < 2 * es.length → fromL es x = a → fromL es y = b → Kr x y := by
  have same : ∀ x y, x < 2 * es.length → y < 2 * es.length → fromL es x = fromL es y → Kr x y := by
    intro x y hx hy e
    obtain ⟨u, i, hu, hi, e1, _⟩ := real_at h hx
    obtain ⟨v, j, hv, hj, e2, _⟩ := real_at h hy
    have b1 := (real_in h hu hi).2.2
    have b2 := (real_in h hv hj).2.2
    rw [e1, Int.toNat_natCast] at b1
    rw [e2, Int.toNat_natCast] at b2
    have : u = v := by omega
    subst this
    have go : ∀ t, Kr x (iat (lat rs u) ((i + t) % (lat rs u).length)).toNat := by
      intro t
      induction t with
      | zero =>
        rw [Nat.add_zero, Nat.mod_eq_of_lt hi, e1, Int.toNat_natCast]
        exact k0 x
      | succ t ih =>
        refine kt _ _ _ ih ?_
        have hm : (i + t) % (lat rs u).length < (lat rs u).length := Nat.mod_lt _ (by omega)
        have bb := real_in h hu hm
        have := k2 (iat (lat rs u) ((i + t) % (lat rs u).length)).toNat (by omega)
        rw [fT_at h hu hm, Nat.mod_add_mod, Nat.add_assoc] at this
        exact this
    have := go (j + (lat rs u).length - i)
    rw [turn_to hi hj, e2, Int.toNat_natCast] at this
    exact this
  induction hc with
  | refl => exact fun x y hx hy e1 e2 => same x y hx hy (by rw [e1, e2])
  | @step b c h0 _ hh hf ht ih =>
    intro x y hx hy e1 e2
    refine kt _ _ _ (ih x h0 hx hh e1 hf) (kt _ _ _ (k1 h0 hh) (same _ y (tw_lt hh) hy ?_))
    rw [← to_tw, ht, e2]
theorem dual_conn (h : holdsP es rs) {x y : Nat} (hx : x < 2 * es.length) (hy : y < 2 * es.length) : Conn (duE es rs) (fromL (duE es rs) x).toNat (fromL (duE es rs) y).toNat ↔ Conn es (fromL es x).toNat (fromL es y).toNat := by
  have H := dual_holds h
  have P := real_prm h
  have nat : ∀ z, z < 2 * es.length → ∃ u : Nat, fromL es z = u := fun z hz => by
    obtain ⟨u, i, hu, hi, e1, _⟩ := real_at h hz
    have := (real_in h hu hi).2.2
    rw [e1, Int.toNat_natCast] at this
    exact ⟨u, this⟩
  have natD : ∀ z, z < 2 * es.length → ∃ u : Nat, fromL (duE es rs) z = u := fun z hz => by
    obtain ⟨u, i, hu, hi, e1, _⟩ := real_at H (x := z) (by rw [duE_length]; exact hz)
    have := (real_in H hu hi).2.2
    rw [e1, Int.toNat_natCast] at this
    exact ⟨u, this⟩
  have stepD : ∀ z, z < 2 * es.length → Conn (duE es rs) (fromL (duE es rs) z).toNat (fromL (duE es rs) (tw z)).toNat := fun z hz => by
    obtain ⟨u, eu⟩ := natD z hz
    obtain ⟨v, ev⟩ := natD (tw z) (tw_lt hz)
    rw [eu, ev, Int.toNat_natCast, Int.toNat_natCast]
    exact Conn.step (Conn.refl _) (h := z) (by rw [duE_length]; exact hz) eu (by rw [to_tw]; exact ev)
  have stepE : ∀ z, z < 2 * es.length → Conn es (fromL es z).toNat (fromL es (tw z)).toNat := fun z hz => by
    obtain ⟨u, eu⟩ := nat z hz
    obtain ⟨v, ev⟩ := nat (tw z) (tw_lt hz)
    rw [eu, ev, Int.toNat_natCast, Int.toNat_natCast]
    exact Conn.step (Conn.refl _) (h := z) hz eu (by rw [to_tw]; exact ev)
  obtain ⟨ux, eux⟩ := nat x hx
  obtain ⟨uy, euy⟩ := nat y hy
  obtain ⟨vx, evx⟩ := natD x hx
  obtain ⟨vy, evy⟩ := natD y hy
  constructor
  · intro hc
    rw [evx, evy, Int.toNat_natCast, Int.toNat_natCast] at hc
    refine conn_gen H (Kr := fun x y => Conn es (fromL es x).toNat (fromL es y).toNat) (fun _ => Conn.refl _) (fun _ _ _ a b => a.trans b) (fun z hz => stepE z (by rw [duE_length] at hz; exact hz)) (fun z hz => ?_) hc x y (by rw [duE_length]; exact hx) (by rw [duE_length]; exact hy) evx evy
    rw [duE_length] at hz
    show Conn es (fromL es z).toNat (fromL es (fT (duE es rs) (facesL es rs) (tw z))).toNat
    rw [dual_next h hz]
    obtain ⟨u, i, hu, hi, e1, _, e3⟩ := real_at h (tw_lt hz)
    rw [tw_tw] at e3
    have b1 := (real_in h hu hi).2.2
    have b2 := (real_in h hu (show (i + 1) % (lat rs u).length < (lat rs u).length from Nat.mod_lt _ (by omega))).2.2
    rw [e1, Int.toNat_natCast] at b1
    rw [e3, b2, ← b1]
    exact stepE z hz
  · intro hc
    rw [eux, euy, Int.toNat_natCast, Int.toNat_natCast] at hc
    refine conn_gen h (Kr := fun x y => Conn (duE es rs) (fromL (duE es rs) x).toNat (fromL (duE es rs) y).toNat) (fun _ => Conn.refl _) (fun _ _ _ a b => a.trans b) stepD (fun z hz => ?_) hc x y hx hy eux euy
    show Conn (duE es rs) (fromL (duE es rs) z).toNat (fromL (duE es rs) (fT es rs (tw z))).toNat
    have e : fromL (duE es rs) (fT es rs (tw z)) = fromL (duE es rs) (tw z) := by
      rw [dual_from (P.lt _ (tw_lt hz)), dual_from (tw_lt hz)]
      exact ((of_orb h (tw_lt hz) (P.lt _ (tw_lt hz))).2 (Orb.step _ _)).symm
    rw [e]
    exact stepD z hz
theorem dual_comp (h : holdsP es rs) (hl : rs.length = n) (hm : netB n es = true) (hd : dualB es rs = true) : compN (facesL es rs).length (duE es rs) = compN n es := by
  have H := dual_holds h
  obtain ⟨s, d, R⟩ := Reps.exist (N := 2 * es.length) (R := fun x y => Conn es (fromL es x).toNat (fromL es y).toNat) ⟨fun _ _ => Conn.refl _, fun _ _ _ _ a => a.symm, fun _ _ _ _ _ _ a b => a.trans b⟩
  have R2 : Reps (2 * (duE es rs).length) (fun x y => Conn (duE es rs) (fromL (duE es rs) x).toNat (fromL (duE es rs) y).toNat) s d := by
    rw [duE_length]
    exact R.congr fun a b ha hb => (dual_conn h ha hb).symm
  rw [comp_halves h hl hm R, comp_halves H rfl hd R2, empty_faces h, hl]
theorem dual_rot (h : holdsP es rs) (hd : dualB es rs = true) : rotI (facesL es rs).length (duE es rs) (facesL es rs) = 0 := by
  have hd' : netB (facesL es rs).length (duE es rs) = true := hd
  unfold rotI holdsB
  rw [if_pos hd', if_pos rfl, decide_eq_true (dual_holds h)]
  rfl
theorem dual_genus (h : rotI n es rs = 0) (hd : dualB es rs = true) : genusI (facesL es rs).length (duE es rs) (facesL es rs) = genusI n es rs := by
  obtain ⟨h1, h2, h3⟩ := rot_is h
  unfold genusI
  rw [dual_comp h3 (by omega) h1 hd, dual_count h3, duE_length]
  congr 1
  omega
/-- A dual may be, if it is not too great. -/
theorem dual_net (h : holdsP es rs) (h1 : (facesL es rs).length ≤ 1024) (h2 : es.length ≤ 3072) : dualB es rs = true := by
  unfold dualB netB
  rw [Bool.and_eq_true, Bool.and_eq_true]
  refine ⟨⟨by simp, by unfold fitsB; rw [dEs_length]; simp; omega⟩, ?_⟩
  rw [List.all_eq_true]
  intro x hx
  obtain ⟨j, hj, rfl⟩ := List.mem_map.1 hx
  have hj := List.mem_range.1 hj
  obtain ⟨a, a1, a2, _⟩ := face_cnt h (x := 2 * j) (by omega)
  obtain ⟨b, b1, b2, _⟩ := face_cnt h (x := 2 * j + 1) (by omega)
  unfold edB belowB dE
  simp [a1, b1]
  omega
/-- The dual's dual, at a node. -/
theorem dual_back (h : holdsP es rs) {v k : Nat} (hv : v < rs.length) (hk : k < (lat rs v).length) : ∃ f x x0 : Nat, iat (lat rs v) k = x ∧ iat (lat rs v) 0 = x0 ∧ x < 2 * es.length ∧ x0 < 2 * es.length ∧ iat (ofL (duE es rs) (facesL es rs)) x = f ∧ iat (ofL (duE es rs) (facesL es rs)) x0 = f ∧ f < (facesL (duE es rs) (facesL es rs)).length ∧ (lat (facesL (duE es rs) (facesL es rs)) f).length = (lat rs v).length ∧ (x : Int) ∈ lat (facesL (duE es rs) (facesL es rs)) f ∧ iat (lat (facesL (duE es rs) (facesL es rs)) f) (((lat (facesL (duE es rs) (facesL es rs)) f).idxOf (x : Int) + 1) % (lat (facesL (duE es rs) (facesL es rs)) f).length) = iat (lat rs v) ((k + 1) % (lat rs v).length) := by
  have H := dual_holds h
  have P := dual_prm h
  have bk := real_in h hv hk
  have b0 := real_in h hv (show 0 < (lat rs v).length by omega)
  obtain ⟨x, hx⟩ : ∃ x : Nat, iat (lat rs v) k = x := ⟨(iat (lat rs v) k).toNat, by omega⟩
  obtain ⟨x0, hx0⟩ : ∃ x : Nat, iat (lat rs v) 0 = x := ⟨(iat (lat rs v) 0).toNat, by omega⟩
  rw [hx, Int.toNat_natCast] at bk
  rw [hx0, Int.toNat_natCast] at b0
  have hxl : x < 2 * es.length := by omega
  have h0l : x0 < 2 * es.length := by omega
  have ofo : ∀ y z, y < 2 * es.length → z < 2 * es.length → (iat (ofL (duE es rs) (facesL es rs)) y = iat (ofL (duE es rs) (facesL es rs)) z ↔ fromL es y = fromL es z) := fun y z hy hz => (of_orb H (by rw [duE_length]; exact hy) (by rw [duE_length]; exact hz)).trans (dual_orb h hy hz)
  obtain ⟨f, f1, f2, f3⟩ := face_cnt H (x := x) (by rw [duE_length]; exact hxl)
  refine ⟨f, x, x0, hx, hx0, hxl, h0l, f1, ?_, f2, ?_, ?_⟩
  · rw [← f1]
    exact (ofo x0 x h0l hxl).2 (by rw [bk.2.2, b0.2.2])
  · rw [f3, duE_length]
    have hp : ((lat rs v).map Int.toNat).length = (lat rs v).length := by simp
    rw [← hp]
    refine List.Perm.length_eq ((List.perm_ext_iff_of_nodup (List.nodup_range.filter _) (nat_nodup (lat_nodup (holds_iff.1 h).2.1 hv) fun z hz => ((holds_iff.1 h).1 v hv z hz).1)).2 fun y => ?_)
    rw [List.mem_filter, List.mem_range, decide_eq_true_iff, List.mem_map]
    constructor
    · rintro ⟨hy, e⟩
      have e2 := (ofo y x hy hxl).1 e
      obtain ⟨u, i, hu, hi, e1, _⟩ := real_at h hy
      have b1 := (real_in h hu hi).2.2
      rw [e1, Int.toNat_natCast, e2, bk.2.2] at b1
      have : v = u := by omega
      subst this
      exact ⟨(y : Int), by rw [← e1]; exact iat_mem hi, Int.toNat_natCast y⟩
    · rintro ⟨z, hz, rfl⟩
      have b1 := (holds_iff.1 h).1 v hv z hz
      exact ⟨by omega, (ofo _ x (by omega) hxl).2 (by rw [b1.2.2, bk.2.2])⟩
  · have K := edge_ok H
    rcases K.mrk x (by rw [duE_length]; exact hxl) with hneg | ⟨i, j, hi, hj, h1, h2⟩
    · have := K.dn x (by rw [duE_length]; exact hxl) (by rw [duE_length]; exact hxl); omega
    have h1' : iat (ofL (duE es rs) (facesL es rs)) x = i := h1
    have : i = f := by omega
    subst this
    have el : lat (facesL (duE es rs) (facesL es rs)) i = lat (edgeF (duE es rs) (facesL es rs)) i := by
      show lat (edgeF (duE es rs) (facesL es rs) ++ _) i = _
      exact lat_app hi
    obtain ⟨a, p, ha, _, hp, hl, ep, hall, hin⟩ := K.fc i hi
    rw [el]
    have hmem : (x : Int) ∈ lat (edgeF (duE es rs) (facesL es rs)) i := by rw [← h2]; exact iat_mem hj
    refine ⟨hmem, ?_⟩
    obtain ⟨q1, q2, _⟩ := idxOf_at hmem
    obtain ⟨q, hq⟩ : ∃ q, (lat (edgeF (duE es rs) (facesL es rs)) i).idxOf (x : Int) = q := ⟨_, rfl⟩
    rw [hq] at q1 q2 ⊢
    rw [hl, rd_len] at q1 ⊢
    rw [hl, rd_at q1] at q2
    rw [rd_at (Nat.mod_lt _ hp)]
    have q3 : it (fT (duE es rs) (facesL es rs)) q a = x := by have : ((it (fT (duE es rs) (facesL es rs)) q a : Nat) : Int) = x := q2; omega
    have ep' : it (fT (duE es rs) (facesL es rs)) p a = a := ep
    have e4 : it (fT (duE es rs) (facesL es rs)) ((q + 1) % p) a = fT (duE es rs) (facesL es rs) x := by
      rw [← it_mod ep' (q + 1)]
      show fT _ _ (it _ q a) = _
      rw [q3]
    have e5 := dual_sig h hv hk
    rw [hx, Int.toNat_natCast] at e5
    show ((it (fT (duE es rs) (facesL es rs)) ((q + 1) % p) a : Nat) : Int) = _
    rw [e4, e5]
    have := (real_in h hv (show (k + 1) % (lat rs v).length < (lat rs v).length from Nat.mod_lt _ (by omega))).1
    omega
end Go.Proofs.Ytcgdmonejogbaaa

namespace Go.Proofs.Ytcgdmonejogbaaa
open Go.RowKit Go.Sort
open Go
/-- What Of answers, refused. -/
theorem dualOf14u (n : Int) (p : Option Addr) (es : List Pt) (cp : Nat) (q : Option Addr) (rs : List (List Int)) (cq : Nat) (w : World) (h : Has w p es) (hr : RHas w q rs) (hbad : ¬ (rotI n es rs = 0 ∧ dualB es rs = true)) : ∃ x : Int, x ≠ 0 ∧ Calls Try.prog 14 #[nv n p es.length cp, .slice q rs.length cq] w fun r w' => r = .returned (.tuple #[nv 0 none 0 0, .slice none 0 0, .int .i64 x]) ∧ Below w.heap.size w w' := by
  by_cases h0 : rotI n es rs = 0
  · refine ⟨3, by decide, (dualOf14 n p es cp q rs cq w h hr h0).mono fun r w' ⟨hp, hb⟩ => ?_⟩
    rcases hp with ⟨h1, _⟩ | ⟨_, h2⟩
    · exact absurd ⟨h0, h1⟩ hbad
    · exact ⟨h2, hb⟩
  · exact ⟨_, h0, dualOf14no n p es cp q rs cq w h hr h0⟩
theorem dualOf14y (n : Int) (p : Option Addr) (es : List Pt) (cp : Nat) (q : Option Addr) (rs : List (List Int)) (cq : Nat) (w : World) (h : Has w p es) (hr : RHas w q rs) (h0 : rotI n es rs = 0) (hd : dualB es rs = true) : Calls Try.prog 14 #[nv n p es.length cp, .slice q rs.length cq] w fun r w' => ∃ g p1 c1, r = .returned (.tuple #[nv (facesL es rs).length (some ⟨g, 0, none⟩) es.length es.length, .slice p1 (facesL es rs).length c1, .int .i64 0]) ∧ Has w' (some ⟨g, 0, none⟩) (duE es rs) ∧ RHas w' p1 (facesL es rs) ∧ Below w.heap.size w w' :=
  (dualOf14 n p es cp q rs cq w h hr h0).mono fun r w' ⟨hp, hb⟩ => by
    rcases hp with ⟨_, g, p1, c1, rv, e, hP, hF⟩ | ⟨h1, _⟩
    · refine ⟨g, p1, c1, e, hP.has, hF.has fun v hv => ?_, hb⟩
      have := face_le es rs hv
      have := (netB_is (rot_is h0).1).2.2.1
      unfold maxLen
      omega
    · rw [hd] at h1; cases h1
set_option maxRecDepth 100000 in
set_option maxHeartbeats 16000000 in
theorem back_walk (n : Int) (p : Option Addr) (es : List Pt) (cp : Nat) (q : Option Addr) (rs : List (List Int)) (cq : Nat) (w : World) (h : Has w p es) (hr : RHas w q rs) (lr : rs.length ≤ maxLen) : Calls Try.prog 4 #[nv n p es.length cp, .slice q rs.length cq] w fun e w' => e = .returned (.bool true) ∧ Below w.heap.size w w' := by
  obtain ⟨W0, hW, hb0, a0⟩ := one_net w n p es.length cp
  have BG := hide (begun9 W0)
  have HB0 := hide hb0
  have HA0 := hide a0
  have HH0 := hide (h.later hb0)
  have HR0 := hide (hr.later hb0)
  have HLr := hide lr
  clear h hr hb0 a0 lr
  go_enter Try.func4, Try.ntmps4
  go_wp2_with fail
  rw [← hW]
  clear hW
  obtain ⟨kg, hkg⟩ : ∃ k, w.heap.size = k := ⟨_, rfl⟩
  have HKG := hide hkg
  rw [hkg] at HA0
  try rw [hkg]
  clear hkg
  refine BG.out.mono ?_
  rintro r w1 ⟨rfl, hb1⟩
  have HB1 := hide hb1
  obtain ⟨g0, g1, _, _⟩ := HA0.out.later hb1
  clear hb1 BG
  by_cases hbad : ¬ (rotI n es rs = 0 ∧ dualB es rs = true)
  · obtain ⟨x, hx0, SE0⟩ := dualOf14u n p es cp q rs cq w1 (HH0.out.later HB1.out) (HR0.out.later HB1.out) hbad
    have SE := hide SE0
    clear SE0
    have t1 : (x == 0) = false := by simp [hx0]
    have t2 : (x != 0) = true := by simp [hx0]
    go_wp2_with fail
    refine SE.out.mono ?_
    rintro r w11 ⟨rfl, hb11⟩
    have HB12 := hide (below_step HB0.out (below_step HB1.out hb11))
    clear hb11 SE g0 g1
    go_upto_region 4 with fail
    obtain ⟨U6, hU6⟩ : ∃ U, U = w11.alloc (nbx 0 none 0 0) := ⟨_, rfl⟩
    have HBU : Hid (Below w.heap.size w U6) := by show Below _ _ _; rw [hU6]; exact below_step HB12.out (by go_grown)
    have hK6 : NOwn U6 w11.heap.size 0 none 0 0 := by rw [hU6]; exact ⟨by go_cell, by go_cell, by simp [go_sem], by simp [go_sem]⟩
    rw [← hU6]
    obtain ⟨c0, c1, _, _⟩ := hK6
    clear hU6
    go_wp2
    go_ret
    exact ⟨rfl, HBU.out⟩
  obtain ⟨r0, hd⟩ := Decidable.not_not.1 hbad
  have HRT := hide r0
  obtain ⟨n0, n1, hes, hE⟩ := netB_is (rot_is r0).1
  have hrn : (rs.length : Int) = n := (rot_is r0).2.1
  obtain ⟨N, rfl⟩ : ∃ N : Nat, n = N := ⟨n.toNat, by omega⟩
  have hho := (rot_is r0).2.2
  have rD := dual_rot hho hd
  have eG := dual_genus r0 hd
  have eC : (facesL (duE es rs) (facesL es rs)).length = N := by rw [dual_count hho]; omega
  have hd2 : dualB (duE es rs) (facesL es rs) = true := dual_net (dual_holds hho) (by omega) (by rw [duE_length]; exact hes)
  have D1 := hide (dualOf14y N p es cp q rs cq w1 (HH0.out.later HB1.out) (HR0.out.later HB1.out) r0 hd)
  obtain ⟨G, hG⟩ : ∃ G, genusI N es rs = G := ⟨_, rfl⟩
  have U1 : Hid (∀ V, Below w1.heap.size w1 V → Calls Try.prog 33 #[nv N p es.length cp, .slice q rs.length cq] V fun e w' => e = .returned (.int .i64 G) ∧ Below V.heap.size V w') := fun V hV => by
    have := genus47 N p es cp q rs cq V ((HH0.out.later HB1.out).later hV) ((HR0.out.later HB1.out).later hV) r0
    rw [hG] at this
    exact this
  have HLD : Hid ((duE es rs).length = es.length) := duE_length
  have U2 : Hid (∀ V g p1 c1, Has V (some ⟨g, 0, none⟩) (duE es rs) → RHas V p1 (facesL es rs) → Calls Try.prog 33 #[nv (facesL es rs).length (some ⟨g, 0, none⟩) es.length es.length, .slice p1 (facesL es rs).length c1] V fun e w' => e = .returned (.int .i64 G) ∧ Below V.heap.size V w') := fun V g p1 c1 hx hV => by
    have := genus47 (facesL es rs).length (some ⟨g, 0, none⟩) (duE es rs) es.length p1 (facesL es rs) c1 V hx hV rD
    rw [HLD.out, eG, hG] at this
    exact this
  have U3 : Hid (∀ V g p1 c1, Has V (some ⟨g, 0, none⟩) (duE es rs) → RHas V p1 (facesL es rs) → Calls Try.prog 11 #[nv (facesL es rs).length (some ⟨g, 0, none⟩) es.length es.length, .slice p1 (facesL es rs).length c1] V fun e w' => e = .returned (.int .i64 0) ∧ Below V.heap.size V w') := fun V g p1 c1 hx hV => by
    have := mayR10 (facesL es rs).length (some ⟨g, 0, none⟩) (duE es rs) es.length p1 (facesL es rs) c1 V hx hV (by have := facesL_le r0; unfold maxLen; omega)
    rw [HLD.out, rD] at this
    exact this
  have D2 : Hid (∀ V g p1 c1, Has V (some ⟨g, 0, none⟩) (duE es rs) → RHas V p1 (facesL es rs) → Calls Try.prog 14 #[nv (facesL es rs).length (some ⟨g, 0, none⟩) es.length es.length, .slice p1 (facesL es rs).length c1] V fun r w' => ∃ g2 p2 c2, r = .returned (.tuple #[nv N (some ⟨g2, 0, none⟩) es.length es.length, .slice p2 N c2, .int .i64 0]) ∧ RHas w' p2 (facesL (duE es rs) (facesL es rs)) ∧ Below V.heap.size V w') := fun V g p1 c1 hx hV => by
    have := dualOf14y (facesL es rs).length (some ⟨g, 0, none⟩) (duE es rs) es.length p1 (facesL es rs) c1 V hx hV rD hd2
    rw [HLD.out, eC] at this
    exact this.mono fun r w' ⟨g2, p2, c2, e, _, hR, hb⟩ => ⟨g2, p2, c2, e, hR, hb⟩
  have HLE : Hid (∀ v, v < N → (lat (facesL (duE es rs) (facesL es rs)) v).length ≤ 7000) := fun v hv => by have := face_le (duE es rs) (facesL es rs) (v := v) (by rw [eC]; exact hv); have := HLD.out; omega
  have HOF : Hid (∀ f k, f < N → k < (lat (facesL (duE es rs) (facesL es rs)) f).length → ∃ x : Nat, iat (lat (facesL (duE es rs) (facesL es rs)) f) k = (x : Int) ∧ x < 2 * es.length ∧ iat (ofL (duE es rs) (facesL es rs)) x = f) := fun f k hf hk => by
    have := of_face (dual_holds hho) (f := f) (k := k) (by rw [eC]; exact hf) hk
    rw [HLD.out] at this
    exact this
  have HAL := ofB_all (dual_holds hho)
  rw [HLD.out, eC] at HAL
  have HAL := hide HAL
  have HBK : Hid (∀ v k, v < N → k < (lat rs v).length → ∃ f x x0 : Nat, iat (lat rs v) k = x ∧ iat (lat rs v) 0 = x0 ∧ x < 2 * es.length ∧ x0 < 2 * es.length ∧ iat (ofL (duE es rs) (facesL es rs)) x = f ∧ iat (ofL (duE es rs) (facesL es rs)) x0 = f ∧ f < N ∧ (lat (facesL (duE es rs) (facesL es rs)) f).length = (lat rs v).length ∧ (x : Int) ∈ lat (facesL (duE es rs) (facesL es rs)) f ∧ iat (lat (facesL (duE es rs) (facesL es rs)) f) (((lat (facesL (duE es rs) (facesL es rs)) f).idxOf (x : Int) + 1) % (lat (facesL (duE es rs) (facesL es rs)) f).length) = iat (lat rs v) ((k + 1) % (lat rs v).length)) := fun v k hv hk => by
    have := dual_back hho (v := v) (k := k) (by omega) hk
    rw [eC] at this
    exact this
  have HRB : Hid (∀ v, v < N → (lat rs v).length ≤ 6144) := fun v hv => (rot_bounds r0).2 v (by omega)
  have HYL : Hid ((facesL (duE es rs) (facesL es rs)).length = N) := eC
  obtain ⟨D, hD⟩ : ∃ D, duE es rs = D := ⟨_, rfl⟩
  obtain ⟨F, hF⟩ : ∃ F, facesL es rs = F := ⟨_, rfl⟩
  rw [hD] at D1 U2 U3 D2 HLE HOF HAL HBK HYL
  rw [hF] at D1 U2 U3 D2 HLE HOF HAL HBK HYL
  obtain ⟨Y, hY⟩ : ∃ Y, facesL D F = Y := ⟨_, rfl⟩
  obtain ⟨O, hO⟩ : ∃ O, ofL D F = O := ⟨_, rfl⟩
  rw [hY] at D2 HLE HOF HAL HBK HYL
  rw [hO] at HOF HAL HBK
  have HRL : Hid (rs.length = N) := by show _ = _; omega
  clear r0 hbad hrn hho rD eG eC hd2 hd hG hD hF hY hO hE
  go_wp2_with fail
  refine D1.out.mono ?_
  rintro r w2 ⟨gd, pq, cqq, rfl, hhd, hrd, hb2⟩
  clear D1 g0 g1
  go_upto_region 4 with fail
  obtain ⟨U, hU⟩ : ∃ U, U = w2.alloc (nbx F.length (some ⟨gd, 0, none⟩) es.length es.length) := ⟨_, rfl⟩
  have hbU : Below w2.heap.size w2 U := by rw [hU]; go_grown
  have HK6 : Hid (NOwn U w2.heap.size F.length (some ⟨gd, 0, none⟩) es.length es.length) := by show NOwn _ _ _ _ _ _; rw [hU]; exact ⟨by go_cell, by go_cell, by simp [go_sem], by simp [go_sem]⟩
  rw [← hU]
  obtain ⟨kh, hkh⟩ : ∃ k, w2.heap.size = k := ⟨_, rfl⟩
  rw [hkh] at HK6
  try rw [hkh]
  have HX6 := hide (hhd.later hbU)
  have HY6 := hide (hrd.later hbU)
  have HV6 := hide (below_step hb2 hbU)
  have HB6 := hide (below_step HB1.out (below_step hb2 hbU))
  clear hU hbU hkh hhd hrd hb2
  have L1 := hide (light9r N p es cp q rs cq U (HH0.out.later HB6.out) (HR0.out.later HB6.out) HLr.out)
  obtain ⟨g0, g1, _, _⟩ := HA0.out.later HB6.out
  go_wp2_with fail
  refine L1.out.mono ?_
  rintro r w3 ⟨⟨x1, rfl⟩, hb3⟩
  have HB3 := hide (below_step HB6.out hb3)
  have HU3 := hide hb3
  clear hb3 L1 g0 g1
  cases x1
  · obtain ⟨c0, c1, _, _⟩ := HK6.out.later HU3.out
    go_wp2
    go_ret
    exact ⟨rfl, below_step HB0.out HB3.out⟩
  have HX3 := hide (HX6.out.later HU3.out)
  have HY3 := hide (HY6.out.later HU3.out)
  have C0 : ∀ dd os, Calls Try.prog 11 #[nv F.length (some ⟨gd, 0, none⟩) es.length es.length, .slice pq F.length cqq] (grow (redrawn w3 dd) os) fun e w'' => e = .returned (.int .i64 0) ∧ ∃ p : Regrown, w'' = grow (redrawn w3 p.d) p.os := fun dd os => Calls.regrown_of (U3.out _ gd pq cqq (HX3.out.later (below_regrown w3 dd os)) (HY3.out.later (below_regrown w3 dd os)))
  have C1 : ∀ dd os, Calls Try.prog 33 #[nv N p es.length cp, .slice q rs.length cq] (grow (redrawn w3 dd) os) fun e w'' => e = .returned (.int .i64 G) ∧ ∃ p : Regrown, w'' = grow (redrawn w3 p.d) p.os := fun dd os => Calls.regrown_of (U1.out _ (below_step (below_step HV6.out HU3.out) (below_regrown w3 dd os)))
  have C2 : ∀ dd os, Calls Try.prog 33 #[nv F.length (some ⟨gd, 0, none⟩) es.length es.length, .slice pq F.length cqq] (grow (redrawn w3 dd) os) fun e w'' => e = .returned (.int .i64 G) ∧ ∃ p : Regrown, w'' = grow (redrawn w3 p.d) p.os := fun dd os => Calls.regrown_of (U2.out _ gd pq cqq (HX3.out.later (below_regrown w3 dd os)) (HY3.out.later (below_regrown w3 dd os)))
  obtain ⟨g0, g1, _, _⟩ := HA0.out.later HB3.out
  obtain ⟨c0, c1, _, _⟩ := HK6.out.later HU3.out
  have G0 := cell_regrown g0
  have G1 := cell_regrown g1
  have E0 := cell_regrown c0
  have E1 := cell_regrown c1
  go_upto_region 6 with fail
  refine wp_region_quiet_below (by kernel_rfl) (by kernel_rfl) ?_
  repeat (go_big_quiet_step (first | with_reducible exact C0 _ _ | with_reducible exact C1 _ _ | with_reducible exact C2 _ _))
  refine wpQuiet_nil ?_
  intro w4 hw'
  have hb4 : Below w3.heap.size w3 w4 := by
    obtain ⟨⟨dq, osq⟩, hw''⟩ := hw'
    rw [hw'']
    exact below_regrown w3 dq osq
  have HB4 := hide (below_step HB3.out hb4)
  have HU4 := hide (below_step HU3.out hb4)
  have DD := hide (D2.out w4 gd pq cqq (HX3.out.later hb4) (HY3.out.later hb4))
  clear hw' hb4 C0 C1 C2 G0 G1 E0 E1 g0 g1 c0 c1
  obtain ⟨c0, c1, _, _⟩ := HK6.out.later HU4.out
  go_wp2_with fail
  refine DD.out.mono ?_
  rintro r w5 ⟨g2, py, cy, rfl, hry, hb5⟩
  clear DD c0 c1
  go_upto_region 9 with fail
  obtain ⟨X, hX⟩ : ∃ U, U = w5.alloc (nbx N (some ⟨g2, 0, none⟩) es.length es.length) := ⟨_, rfl⟩
  have hbX : Below w5.heap.size w5 X := by rw [hX]; go_grown
  have HK7 : Hid (NOwn X w5.heap.size N (some ⟨g2, 0, none⟩) es.length es.length) := by show NOwn _ _ _ _ _ _; rw [hX]; exact ⟨by go_cell, by go_cell, by simp [go_sem], by simp [go_sem]⟩
  rw [← hX]
  obtain ⟨kx, hkx⟩ : ∃ k, w5.heap.size = k := ⟨_, rfl⟩
  rw [hkx] at HK7
  try rw [hkx]
  have HYX := hide (hry.later hbX)
  have HBX := hide (below_step HB4.out (below_step hb5 hbX))
  clear hX hbX hkx hry hb5
  obtain ⟨g0, g1, _, _⟩ := HA0.out.later HBX.out
  obtain ⟨y0, y1, _, _⟩ := HK7.out
  have HSB : Hid (∀ V, Below X.heap.size X V → (V.cell? ⟨kg, 0, none⟩ = some (.int .i64 N) ∧ V.cell? ⟨kg, 1, none⟩ = some (.slice p es.length cp)) ∧ V.cell? ⟨kx, 0, none⟩ = some (.int .i64 N)) := fun V hV => by
    obtain ⟨x0, x1, _, _⟩ := (HA0.out.later HBX.out).later hV
    obtain ⟨y0, _, _, _⟩ := HK7.out.later hV
    exact ⟨⟨x0, x1⟩, y0⟩
  have hbx := HBX.out
  have HRX := hide (HR0.out.later hbx)
  clear hbx HK6 HK7 HX6 HY6 HX3 HY3 U1 U2 U3 D2
  obtain ⟨i0, hi0, hz0, hz1, hz2⟩ := info_parts info3
  obtain ⟨m, hm⟩ : ∃ m, 2 * es.length = m := ⟨_, rfl⟩
  rw [hm] at HOF HAL HBK
  have hm2 : m ≤ 90000 := by omega
  have hmi : 2 * (es.length : Int) = m := by omega
  go_wp2_with (refine wpList_make_full _ rfl (.tmp 71) (.tmp 71) 44 rfl X.heap.size 3 i0 (.int .i64 0) 1 Try.underlying44 hi0 hz0 hz1 .i64 .i64 _ _ m rfl (by first | exact congrArg (fun z => some (Value.int .i64 z)) hmi | rfl | (rw [hmi]; rfl) | (simp only [Act.eval]; rw [hmi]; rfl) | simp [hmi]) (by first | exact congrArg (fun z => some (Value.int .i64 z)) hmi | rfl | (rw [hmi]; rfl) | simp [hmi]) rfl ?c1 ?c2 ?c3 ?_)
  all_goals first | (intro w6 hown hgrow) | (case c3 => exact Nat.le_refl _) | (case c2 => unfold maxLen; omega) | (case c1 => first | omega | (rw [hz2]; omega))
  have hgp := irow_made hown
  obtain ⟨g, hg⟩ : ∃ g, X.heap.size = g := ⟨_, rfl⟩
  have HG0 : Hid (IRow w6 X.heap.size g m (ofB Y O m 0 0)) := by
    show IRow _ _ _ _ _
    rw [ofB_zero]
    rw [hg] at hgp ⊢
    exact hgp
  have HB7 := hide (below_made hgrow)
  try rw [hg]
  clear hown hgrow hgp hg hi0 hz0 hz1 hz2 i0 g0 g1 y0 y1
  go_wp2_with fail
  go_loopw [11] (fun t11 wr => ∃ f : Nat, f ≤ N ∧ t11 = .int .i64 f ∧ Hid (Below X.heap.size X wr) ∧ Hid (IRow wr X.heap.size g m (ofB Y O m f 0))) (fun t11 _ => N - (intOf t11).toNat)
  case atStart => exact ⟨0, by omega, rfl, HB7.out, HG0.out⟩
  case round =>
    obtain ⟨f, hf, rfl, HBr, HGr⟩ := hrel
    clear HB7 HG0
    obtain ⟨⟨_, _⟩, s2⟩ := HSB.out wr HBr.out
    by_cases hlt : f < N
    · obtain ⟨bF, oF, aF, kF, rfl, cF, mF, zF, _⟩ := HYX.out.at_ (v := f) (by rw [HYL.out]; exact hlt)
      have e1 : (f : Int) < N := by omega
      have hlf := HLE.out f hlt
      have HMF := hide mF
      have HCF := hide cF
      clear mF zF cF
      go_wp2_with fail
      go_loopw [12] (fun t12 wj => ∃ k : Nat, k ≤ (lat Y f).length ∧ t12 = .int .i64 k ∧ Hid (Below X.heap.size X wj) ∧ Hid (IRow wj X.heap.size g m (ofB Y O m f k))) (fun t12 _ => (lat Y f).length - (intOf t12).toNat)
      case atStart => exact ⟨0, by omega, rfl, HBr.out, HGr.out⟩
      case round =>
        obtain ⟨k, hk, rfl, HBj, HGj⟩ := hrel
        clear HBr HGr s2
        have c0 := later HBj.out HCF.out
        by_cases hkl : k < (lat Y f).length
        · rcases HMF.out.later HBj.out with hn | ⟨b2, o2, rfl, l2⟩
          · rw [hn] at hkl; simp at hkl
          obtain ⟨x, ex, hx, hox⟩ := HOF.out f k hlt hkl
          have c3 := l2 k hkl
          rw [ex] at c3
          have HST : Hid (ofB Y O m f (k + 1) = (ofB Y O m f k).set x f) := ofB_step hkl ex hox
          obtain ⟨d0, f0⟩ := HGj.out.cell hx
          have HSET := hide (HGj.out.set x f)
          have HBS : Hid (Below X.heap.size X (wr.setCell ⟨g, x, none⟩ (.int .i64 f))) := HBj.out.setCell (p := ⟨g, x, none⟩) HGj.out.lt.1 _
          rw [← HST.out] at HSET
          have j1 : (k : Int) < (lat Y f).length := by omega
          have j2 : (x : Int) < m := by omega
          clear l2 ex hox HGj
          go_wp2
          go_roundw
          case rel => exact ⟨k + 1, by omega, by go_num, HBS.out, HSET.out⟩
          case measure => simp [intOf]; omega
        · have hke : k = (lat Y f).length := by omega
          have j1 : ¬ (k : Int) < (lat Y f).length := by omega
          have HA9 : Hid (ofB Y O m (f + 1) 0 = ofB Y O m f k) := by show _ = _; unfold ofB; rw [hke, ahead_next (by rw [HYL.out]; exact hlt)]
          rw [← HA9.out] at HGj
          clear hke hkl
          go_wp2
          go_roundw
          case rel => exact ⟨f + 1, by omega, by go_num, HBj.out, HGj.out⟩
          case measure => simp [intOf]; omega
    · have hfe : f = N := by omega
      have e1 : ¬ (f : Int) < N := by omega
      rw [hfe, HAL.out] at HGr
      have e2 : ¬ (N : Int) < N := by omega
      clear hfe
      go_wp2_with fail
      obtain ⟨w8, hw8⟩ : ∃ z, z = wr := ⟨_, rfl⟩
      subst hw8
      have HG8 := hide HGr.out
      have HB8 := hide HBr.out
      have HY8 := hide (HYX.out.later HBr.out)
      have HR8 := hide (HRX.out.later HBr.out)
      clear HGr HBr HYX HRX HOF HAL HLE s2 hlt e1 e2 hf
      go_loopw [13] (fun t13 wv => ∃ v : Nat, v ≤ N ∧ t13 = .int .i64 v ∧ Hid (Below w8.heap.size w8 wv)) (fun t13 _ => N - (intOf t13).toNat)
      case atStart => exact ⟨0, by omega, rfl, Below.refl _ _⟩
      case round =>
        obtain ⟨v, hv, rfl, HBv⟩ := hrel
        obtain ⟨⟨s0, _⟩, _⟩ := HSB.out wr (below_step HB8.out HBv.out)
        by_cases hlt : v < N
        · obtain ⟨bR, oR, aR, kR, rfl, cR, mR, _, _, _⟩ := HR8.out.at_ (v := v) (by rw [HRL.out]; exact hlt)
          have e1 : (v : Int) < N := by omega
          have e3 : (v : Int) < rs.length := by have := HRL.out; omega
          have hlb := HRB.out v hlt
          have HMR := hide mR
          have HCR := hide cR
          clear mR cR
          obtain ⟨la, hla⟩ : ∃ l, (lat rs v).length = l := ⟨_, rfl⟩
          rw [hla] at HCR hlb
          have HLA := hide hla
          clear hla
          go_wp2_with fail
          go_loopw [14] (fun t14 wj => ∃ k : Nat, k ≤ la ∧ t14 = .int .i64 k ∧ Hid (Below w8.heap.size w8 wj)) (fun t14 _ => la - (intOf t14).toNat)
          case atStart => exact ⟨0, by omega, rfl, HBv.out⟩
          case round =>
            obtain ⟨k, hk, rfl, HBj⟩ := hrel
            clear HBv s0
            by_cases hkl : k < la
            · obtain ⟨f, x, x0, a1, a2, a3, a4, a5, a6, a7, a8, a9, a10⟩ := HBK.out v k hlt (by rw [HLA.out]; exact hkl)
              obtain ⟨bF, oF, aF, kF, rfl, cF, mF, _, _, _⟩ := HY8.out.at_ (v := f) (by rw [HYL.out]; exact a7)
              rcases HMR.out with hn | ⟨b2, o2, rfl, l2⟩
              · have := HLA.out; rw [hn] at this; simp at this; omega
              have hq : (k + 1) % la < la := Nat.mod_lt _ (by omega)
              rw [HLA.out] at a8 a10
              obtain ⟨z, hz⟩ : ∃ z, iat (lat rs v) ((k + 1) % la) = z := ⟨_, rfl⟩
              have z1 := l2 k (by rw [HLA.out]; exact hkl)
              have z2 := l2 0 (by rw [HLA.out]; omega)
              have z3 := l2 ((k + 1) % la) (by rw [HLA.out]; exact hq)
              rw [a1] at z1
              rw [a2, Nat.add_zero] at z2
              rw [hz] at z3 a10
              rw [a8] at cF
              have y1 := (HG8.out.cell a3).1
              have y2 := (HG8.out.cell a4).1
              rw [a5] at y1
              rw [a6] at y2
              have HCELL : Hid (∀ V, Below w8.heap.size w8 V → (V.cell? ⟨bR, oR + v, none⟩ = some (.slice (some ⟨b2, o2, none⟩) la kR) ∧ V.cell? ⟨b2, o2 + k, none⟩ = some (.int .i64 x) ∧ V.cell? ⟨b2, o2, none⟩ = some (.int .i64 x0) ∧ V.cell? ⟨b2, o2 + (k + 1) % la, none⟩ = some (.int .i64 z)) ∧ V.cell? ⟨g, x, none⟩ = some (.int .i64 f) ∧ V.cell? ⟨g, x0, none⟩ = some (.int .i64 f) ∧ V.cell? ⟨bF, oF + f, none⟩ = some (.slice aF la kF)) := fun V hV => ⟨⟨later hV HCR.out, later hV z1, later hV z2, later hV z3⟩, later hV y1, later hV y2, later hV cF⟩
              have HBH : Hid (∀ V, Below w8.heap.size w8 V → Calls Try.prog 34 #[.slice aF la kF, .int .i64 x] V fun e w' => e = .returned (.int .i64 z) ∧ Below V.heap.size V w') := fun V hV => by
                have := behind34 aF (lat Y f) kF (x : Int) V (by rw [a8]; omega) (mF.later hV) a9
                rw [a10, a8] at this
                exact this
              obtain ⟨q1, hq1⟩ : ∃ q1, (k + 1) % la = q1 := ⟨_, rfl⟩
              rw [hq1] at HCELL hq
              have d1 : IntKind.i64.wrap ((k : Int) + 1) = k + 1 := by rw [IntKind.wrap_i64]; omega
              have d2 : Int.tmod ((k : Int) + 1) la = q1 := by
                rw [← hq1, show ((k : Int) + 1) = ((k + 1 : Nat) : Int) from by omega]
                exact (Int.ofNat_tmod _ _).symm
              have l1 : (x : Int) < m := by omega
              have l2' : (x0 : Int) < m := by omega
              have l3 : (f : Int) < N := by omega
              have l4 : (k : Int) < la := by omega
              have l5 : (q1 : Int) < la := by omega
              have l6 : (0 : Int) < la := by omega
              have l7 : 0 < la := by omega
              have l8 : ¬ la = 0 := by omega
              have l9 : ¬ (la : Int) = 0 := by omega
              clear a1 a2 a5 a6 a8 a9 a10 z1 z2 z3 y1 y2 cF mF l2 hz hq1
              obtain ⟨⟨q0, q1', q2, q3⟩, q4, q5, q6⟩ := HCELL.out wr HBj.out
              have Q0 := cell_regrown q0
              have Q1 := cell_regrown q1'
              have Q2 := cell_regrown q2
              have Q4 := cell_regrown q4
              have Q5 := cell_regrown q5
              have Q6 := cell_regrown q6
              clear q1' q2 q3 q4 q5 q6
              go_upto_region 25 with fail
              refine wp_region_quiet_below (by kernel_rfl) (by kernel_rfl) ?_
              repeat (go_big_quiet_step (fail))
              refine wpQuiet_nil ?_
              intro v1 hw'
              have hbv1 : Below wr.heap.size wr v1 := by
                obtain ⟨⟨dq, osq⟩, hw''⟩ := hw'
                rw [hw'']
                exact below_regrown wr dq osq
              have HBv1 := hide (below_step HBj.out hbv1)
              clear hw' hbv1 Q0 Q1 Q2 Q4 Q5 Q6 q0
              obtain ⟨⟨q0, q1', q2, q3⟩, q4, q5, q6⟩ := HCELL.out v1 HBv1.out
              have Q0 := cell_regrown q0
              have Q1 := cell_regrown q1'
              have Q2 := cell_regrown q2
              have Q3 := cell_regrown q3
              have Q5 := cell_regrown q5
              have Q6 := cell_regrown q6
              have C3 : ∀ dd os, Calls Try.prog 34 #[.slice aF la kF, .int .i64 x] (grow (redrawn v1 dd) os) fun e w'' => e = .returned (.int .i64 z) ∧ ∃ p : Regrown, w'' = grow (redrawn v1 p.d) p.os := fun dd os => Calls.regrown_of (HBH.out _ (below_step HBv1.out (below_regrown v1 dd os)))
              clear q0 q1' q2 q3 q4 q5 q6
              go_upto_region 27 with fail
              refine wp_region_quiet_below (by kernel_rfl) (by kernel_rfl) ?_
              repeat (go_big_quiet_step (with_reducible exact C3 _ _))
              refine wpQuiet_nil ?_
              intro v2 hw'
              have hbv2 : Below v1.heap.size v1 v2 := by
                obtain ⟨⟨dq, osq⟩, hw''⟩ := hw'
                rw [hw'']
                exact below_regrown v1 dq osq
              have HBv2 := hide (below_step HBv1.out hbv2)
              clear hw' hbv2 Q0 Q1 Q2 Q3 Q5 Q6 C3
              go_wp2
              go_roundw
              case rel => exact ⟨k + 1, by omega, by go_num, HBv2.out⟩
              case measure => simp [intOf]; omega
            · have q0 := later HBj.out HCR.out
              have j1 : ¬ (k : Int) < la := by omega
              go_wp2
              go_roundw
              case rel => exact ⟨v + 1, by omega, by go_num, HBj.out⟩
              case measure => simp [intOf]; omega
        · have j1 : ¬ (v : Int) < N := by omega
          have HBE := hide (below_step HB0.out (below_step HBX.out (below_step HB8.out HBv.out)))
          go_wp2
          go_ret
          exact ⟨rfl, HBE.out⟩
end Go.Proofs.Ytcgdmonejogbaaa
