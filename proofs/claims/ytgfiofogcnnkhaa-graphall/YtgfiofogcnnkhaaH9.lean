/- DropNode, DropEdge, Move. -/
import Derived.Test.YtgfiofogcnnkhaaH8
namespace Go.Proofs.Ytgfiofogcnnkhaa
open Go.RowKit Go.Sort
open Go

/-- Edges dropped, from the last place on. -/
def dpE (G : Gr) (ps : List Int) : Gr := ps.foldr (fun p H => H.takeE p.toNat) G
theorem dpE_rest (G : Gr) : ∀ ps : List Int, (dpE G ps).ns = G.ns ∧ (dpE G ps).nn = G.nn ∧ (dpE G ps).ne = G.ne ∧ (dpE G ps).ms = G.ms ∧ (dpE G ps).lm = G.lm ∧ (dpE G ps).dn.length ≤ G.dn.length + ps.length
  | [] => ⟨rfl, rfl, rfl, rfl, rfl, by simp [dpE]⟩
  | p :: r => by
    obtain ⟨h1, h2, h3, h4, h5, h6⟩ := dpE_rest G r
    refine ⟨h1, h2, h3, h4, h5, ?_⟩
    have h7 := rem_dn { dpE G r with es := (dpE G r).es.eraseIdx p.toNat } (.te p.toNat (eat (dpE G r).es p.toNat))
    have h8 : (dpE G (p :: r)).dn.length ≤ (dpE G r).dn.length + 1 := h7
    simp only [List.length_cons]
    omega
theorem dpE_drop (G : Gr) {ps : List Int} {k : Nat} (hk : k < ps.length) : dpE G (ps.drop k) = (dpE G (ps.drop (k + 1))).takeE (iat ps k).toNat := by
  have : ps.drop k = iat ps k :: ps.drop (k + 1) := by
    rw [List.drop_eq_getElem_cons hk]
    congr 1
    unfold iat
    rw [List.getD_eq_getElem?_getD, List.getElem?_eq_getElem hk]
    rfl
  rw [this]
  rfl
theorem atN_high {l : List Ed} {v : Int} : ∀ {k j : Nat}, j < (atN l v k).length → iat (atN l v k) j + ((atN l v k).length - j : Nat) ≤ k
  | 0, j, h => by simp [atN] at h
  | k + 1, j, h => by
    have ih := @atN_high l v k j
    simp only [atN] at h ⊢
    by_cases ht : (eat l k).a = v ∨ (eat l k).b = v
    · rw [if_pos ht] at h ⊢
      simp only [List.length_append, List.length_singleton] at h ⊢
      by_cases hj : j < (atN l v k).length
      · have := ih hj
        have e : iat (atN l v k ++ [(k : Int)]) j = iat (atN l v k) j := by
          unfold iat
          rw [List.getD_eq_getElem?_getD, List.getD_eq_getElem?_getD, List.getElem?_append_left hj]
        rw [e]
        omega
      · have hje : j = (atN l v k).length := by omega
        have e : iat (atN l v k ++ [(k : Int)]) j = k := by
          unfold iat
          rw [List.getD_eq_getElem?_getD, List.getElem?_append_right (by omega), hje, Nat.sub_self]
          rfl
        rw [e]
        omega
    · rw [if_neg ht, List.append_nil] at h ⊢
      have := ih h
      omega
theorem dpE_len (G : Gr) (v : Int) : ∀ t, t ≤ (plAt G v).length → (dpE G ((plAt G v).drop ((plAt G v).length - t))).es.length = G.es.length - t
  | 0, _ => by simp [dpE]
  | t + 1, h => by
    have ih := dpE_len G v t (by omega)
    obtain ⟨k, hk⟩ : ∃ k, (plAt G v).length - (t + 1) = k := ⟨_, rfl⟩
    have hk2 : (plAt G v).length - t = k + 1 := by omega
    rw [hk, dpE_drop G (by omega)]
    rw [hk2] at ih
    have hhi := atN_high (l := G.es) (v := v) (k := G.es.length) (j := k) (by show k < (plAt G v).length; omega)
    have hhi2 : iat (plAt G v) k + ((plAt G v).length - k : Nat) ≤ G.es.length := hhi
    obtain ⟨j, h1, _, _⟩ := pl_at (G := G) (v := v) (k := k) (by omega)
    show ((dpE G ((plAt G v).drop (k + 1))).es.eraseIdx (iat (plAt G v) k).toNat).length = _
    rw [List.length_eraseIdx_of_lt (by rw [ih]; omega), ih]
    omega
theorem dpE_can (G : Gr) (v : Int) {k : Nat} (hk : k < (plAt G v).length) : (iat (plAt G v) k).toNat < (dpE G ((plAt G v).drop (k + 1))).es.length := by
  have hl := dpE_len G v ((plAt G v).length - (k + 1)) (by omega)
  rw [show (plAt G v).length - ((plAt G v).length - (k + 1)) = k + 1 by omega] at hl
  have hhi : iat (plAt G v) k + ((plAt G v).length - k : Nat) ≤ G.es.length := atN_high (l := G.es) (v := v) (k := G.es.length) (j := k) hk
  obtain ⟨j, h1, _, _⟩ := pl_at (G := G) (v := v) (k := k) hk
  rw [hl]
  omega
def touB (v : Int) (e : Ed) : Bool := decide (e.a = v) || decide (e.b = v)
theorem dpE_es (v : Int) (l : List Ed) : ∀ (k : Nat), k ≤ l.length → ∀ (G : Gr) (R : List Ed), G.es = l.take k ++ R → (dpE G (atN l v k)).es = (l.take k).filter (fun e => !touB v e) ++ R
  | 0, _, G, R, h => by simpa [atN, dpE] using h
  | k + 1, hk, G, R, h => by
    have hk2 : k < l.length := by omega
    have htk : l.take (k + 1) = l.take k ++ [eat l k] := by
      rw [List.take_add_one, List.getElem?_eq_getElem hk2]
      unfold eat
      rw [List.getD_eq_getElem?_getD, List.getElem?_eq_getElem hk2]
      rfl
    have htl : (l.take k).length = k := by rw [List.length_take]; omega
    rw [htk] at h ⊢
    simp only [atN]
    by_cases ht : (eat l k).a = v ∨ (eat l k).b = v
    · have htb : touB v (eat l k) = true := by unfold touB; simpa using ht
      rw [if_pos ht, List.filter_append]
      have e1 : dpE G (atN l v k ++ [(k : Int)]) = dpE (G.takeE k) (atN l v k) := by
        unfold dpE
        rw [List.foldr_append]
        simp
      have e2 : (G.takeE k).es = l.take k ++ R := by
        show G.es.eraseIdx k = _
        rw [h, List.append_assoc, List.eraseIdx_append_of_length_le (by omega), htl, Nat.sub_self]
        rfl
      rw [e1, dpE_es v l k (by omega) (G.takeE k) R e2]
      simp [htb]
    · have htb : touB v (eat l k) = false := by unfold touB; simpa using ht
      rw [if_neg ht, List.append_nil, dpE_es v l k (by omega) G (eat l k :: R) (by rw [h]; simp), List.filter_append]
      simp [htb]
theorem dpE_all (G : Gr) (v : Int) : (dpE G (plAt G v)).es = G.es.filter (fun e => !touB v e) := by
  have := dpE_es v G.es G.es.length (Nat.le_refl _) G [] (by simp)
  rw [List.take_length, List.append_nil] at this
  exact this
theorem Fine.dp {N : Int} {G : Gr} (h : Fine N G) : ∀ ps : List Int, Fine N (dpE G ps)
  | [] => h
  | p :: r => (Fine.dp h r).takeE p.toNat
def drG (G : Gr) (v : Int) : Gr := if v ∈ G.ns then (dpE G (plAt G v)).takeN (pl G.ns v) else G
def drV (G : Gr) (v : Int) : Value := if v ∈ G.ns then .tuple #[.int .i64 (plAt G v).length, .int .i64 0] else .tuple #[.int .i64 0, .int .i64 2]
theorem Fine.dr {N : Int} {G : Gr} (h : Fine N G) (v : Int) : Fine N (drG G v) := by
  unfold drG
  split
  · rename_i hm
    have hF := h.dp (plAt G v)
    obtain ⟨m1, m2⟩ := pl_mem h.un hm
    refine hF.takeN (fun e he => ?_)
    rw [(dpE_rest G _).1, m2]
    rw [dpE_all, List.mem_filter] at he
    have := he.2
    unfold touB at this
    simpa using this
  · exact h
def dcG (G : Gr) (e : Int) : Gr := if e ∈ eids G.es then G.takeE (pl (eids G.es) e) else G
def dcE (G : Gr) (e : Int) : Int := if e ∈ eids G.es then 0 else 2
theorem Fine.dc {N : Int} {G : Gr} (h : Fine N G) (e : Int) : Fine N (dcG G e) := by
  unfold dcG
  split
  · exact h.takeE _
  · exact h
def mvE (G : Gr) (e sd v : Int) : Int := if e ∈ eids G.es ∧ v ∈ G.ns ∧ 0 ≤ sd ∧ sd ≤ 1 then 0 else 2
def mvG (G : Gr) (e sd v : Int) : Gr := if mvE G e sd v = 0 then G.setE (pl (eids G.es) e) sd.toNat v else G
theorem Fine.mv {N : Int} {G : Gr} (h : Fine N G) (e sd v : Int) : Fine N (mvG G e sd v) := by
  unfold mvG
  split
  · rename_i h0
    unfold mvE at h0
    split at h0
    · rename_i hm
      obtain ⟨m1, _⟩ := pl_mem h.ue hm.1
      rw [eids_length] at m1
      exact h.setE _ m1 hm.2.1
    · omega
  · exact h
set_option maxRecDepth 100000 in
set_option maxHeartbeats 8000000 in
theorem dropEdge27 (b : Nat) (s : GV) (G : Gr) (e : Int) (w : World) (h : GAt w b s G) (hl : G.dn.length ≤ 4990000) (hm : G.ms.length ≤ 64) (he : G.es.length ≤ 3072) (hu : Up (eids G.es)) : Calls Try.prog 27 #[ptr b, .int .i64 e] w (Turns w b s (.int .i64 (dcE G e)) (dcG G e)) := by
  have A := none50 b s G w h
  have P := edgePlace51 b s G e w h (by omega) hu
  unfold dcE dcG
  have HH := hide h
  by_cases hin : e ∈ eids G.es
  · rw [if_pos hin, if_pos hin]
    rw [decide_eq_true hin] at P
    obtain ⟨m1, m2⟩ := pl_mem hu hin
    rw [eids_length] at m1
    obtain ⟨k, hk⟩ : ∃ k, pl (eids G.es) e = k := ⟨_, rfl⟩
    rw [hk] at P m1 ⊢
    clear h hk m2 hin hu
    go_enter Try.func27, Try.ntmps27
    go_wp2_with (first | (go_at_call 50; refine A.mono ?_; rintro e w' ⟨rfl, hw⟩; have hw2 := hw.symm; subst hw2) | (go_at_call 51; refine P.mono ?_; rintro e w1 ⟨rfl, hb⟩; have HB := hide hb; clear hb) | (go_at_call 60; refine (takeEdge60 b s G k w1 (HH.out.later HB.out) (by omega) hm (by omega) m1).mono ?_; rintro e w2 ⟨rfl, s2, h1, h2⟩; have HG := hide h1; have HR := hide ((GFr.of_below HB.out).trans h2); clear h1 h2))
    go_ret
    exact ⟨rfl, _, HG.out, HR.out⟩
  · rw [if_neg hin, if_neg hin]
    rw [decide_eq_false hin] at P
    clear h hin hu
    go_enter Try.func27, Try.ntmps27
    go_wp2_with (first | (go_at_call 50; refine A.mono ?_; rintro e w' ⟨rfl, hw⟩; have hw2 := hw.symm; subst hw2) | (go_at_call 51; refine P.mono ?_; rintro e w1 ⟨rfl, hb⟩; have HB := hide hb; clear hb))
    go_ret
    exact ⟨rfl, s, HH.out.later HB.out, GFr.of_below HB.out⟩
set_option maxRecDepth 100000 in
set_option maxHeartbeats 8000000 in
theorem dropNode25 (b : Nat) (s : GV) (G : Gr) (v : Int) (w : World) (h : GAt w b s G) (hl : G.dn.length ≤ 4990000) (hm : G.ms.length ≤ 64) (hn : G.ns.length ≤ 1024) (he : G.es.length ≤ 3072) (hu : Up G.ns) : Calls Try.prog 25 #[ptr b, .int .i64 v] w (Turns w b s (drV G v) (drG G v)) := by
  have A := none50 b s G w h
  have P := nodePlace55 b s G v w h (by omega) hu
  have HH := hide h
  unfold drV drG
  by_cases hin : v ∈ G.ns
  · rw [if_pos hin, if_pos hin]
    rw [decide_eq_true hin] at P
    obtain ⟨m1, m2⟩ := pl_mem hu hin
    obtain ⟨q, hq⟩ : ∃ k, pl G.ns v = k := ⟨_, rfl⟩
    rw [hq] at P m1 ⊢
    have PL := hide (placesAt56 b s G v w h (by omega))
    obtain ⟨N, hN⟩ : ∃ N, (plAt G v).length = N := ⟨_, rfl⟩
    have hNl : N ≤ 3072 := by rw [← hN]; exact Nat.le_trans (atN_length _ _ _) he
    have HN := hide hN
    rw [hN] at PL ⊢
    clear h hq m2 hin hu hN
    go_enter Try.func25, Try.ntmps25
    go_wp2_with (first | (go_at_call 50; refine A.mono ?_; rintro e w' ⟨rfl, hw⟩; have hw2 := hw.symm; subst hw2) | (go_at_call 55; refine P.mono ?_; rintro e w' ⟨rfl, hw⟩; have hw2 := hw.symm; subst hw2) | (go_at_call 56; refine PL.out.mono ?_; rintro e w1 ⟨p1, c1, rfl, o1, hb⟩; have HB := hide hb; have HO := hide o1; clear hb o1))
    clear A P PL
    go_loopw [9] (fun t9 wr => ∃ (r : Nat) (s1 : GV), r ≤ N ∧ t9 = .int .i64 ((r : Int) - 1) ∧ Hid (GAt wr b s1 (dpE G ((plAt G v).drop r))) ∧ Hid (GFr w1 wr b s s1)) (fun t9 _ => (intOf t9 + 1).toNat)
    case atStart => exact ⟨N, s, Nat.le_refl _, rfl, by show GAt _ _ _ _; rw [List.drop_of_length_le (by rw [HN.out]; exact Nat.le_refl _)]; exact HH.out.later HB.out, GFr.of_below (Below.refl _ _)⟩
    case round =>
      obtain ⟨r, s1, hr, rfl, HGr, HRr⟩ := hrel
      by_cases hlt : 0 < r
      · obtain ⟨k, rfl⟩ : ∃ k, r = k + 1 := ⟨r - 1, by omega⟩
        have ek : (((k + 1 : Nat) : Int) - 1) = (k : Int) := by omega
        rw [ek]
        have hkN : k < (plAt G v).length := by rw [HN.out]; omega
        have HD := hide (dpE_drop G hkN)
        have hcan := dpE_can G v hkN
        obtain ⟨j, hj1, hj2, _⟩ := pl_at hkN
        rw [hj1, Int.toNat_natCast] at hcan HD
        have h6 := (dpE_rest G ((plAt G v).drop (k + 1))).2.2.2
        have hdl : ((plAt G v).drop (k + 1)).length ≤ N := by rw [List.length_drop, HN.out]; omega
        have hel : (dpE G ((plAt G v).drop (k + 1))).es.length ≤ 5000 := by
          have hq := dpE_len G v (N - (k + 1)) (by rw [HN.out]; omega)
          rw [HN.out, show N - (N - (k + 1)) = k + 1 by omega] at hq
          rw [hq]; omega
        have U := hide (takeEdge60 b s1 (dpE G ((plAt G v).drop (k + 1))) j wr HGr.out (by omega) (by rw [h6.1]; exact hm) hel hcan)
        rw [← HD.out] at U
        have ck : ∃ g, p1 = some ⟨g, 0, none⟩ ∧ wr.cell? ⟨g, k, none⟩ = some (.int .i64 j) := by
          have o2 := HO.out
          obtain ⟨g, rfl, _, hg⟩ := own_some o2 (by omega)
          have c0 : w1.cell? ⟨g, k, none⟩ = some (.int .i64 j) := by
            rcases own_ihas o2 with h0 | ⟨g', o', h1, h2⟩
            · rw [h0] at hkN; simp at hkN
            · cases h1
              have := h2 k hkN
              rw [hj1, Nat.zero_add] at this
              exact this
          refine ⟨g, rfl, HRr.out.fr.cell c0 (fun hgb => ?_)⟩
          have hge := (World.ownsRow.lt o2 g rfl).1
          exact HH.out.fresh hge hgb
        obtain ⟨g, rfl, ck⟩ := ck
        have j3 : (k : Int) < N := by omega
        have j4 : (0 : Int) ≤ k := by omega
        clear hj1 hj2 hcan h6 hdl hel hkN ek hlt HD
        go_wp2_with (go_at_call 60; refine U.out.mono ?_; rintro e w' ⟨rfl, s2, g2, r2⟩; have HG2 := hide g2; have HR2 := hide (HRr.out.trans r2); clear g2 r2)
        go_roundw
        case rel => exact ⟨k, s2, by omega, rfl, HG2.out, HR2.out⟩
        case measure => simp [intOf]
      · have hre : r = 0 := by omega
        subst hre
        have h6 := dpE_rest G (plAt G v)
        rw [List.drop_zero] at HGr
        have U := hide (takeNode61 b s1 (dpE G (plAt G v)) q wr HGr.out (by have := h6.2.2.2.2.2; rw [HN.out] at this; omega) (by rw [h6.2.2.2.1]; exact hm) (by rw [h6.1]; omega) (by rw [h6.1]; exact m1))
        clear h6
        go_wp2_with (go_at_call 61; refine U.out.mono ?_; rintro e w' ⟨rfl, s2, g2, r2⟩; have HG2 := hide g2; have HR2 := hide (((GFr.of_below HB.out).trans HRr.out).trans r2); clear g2 r2)
        go_ret2
        exact ⟨rfl, _, HG2.out, HR2.out⟩
  · rw [if_neg hin, if_neg hin]
    rw [decide_eq_false hin] at P
    clear h hin hu
    go_enter Try.func25, Try.ntmps25
    go_wp2_with (first | (go_at_call 50; refine A.mono ?_; rintro e w' ⟨rfl, hw⟩; have hw2 := hw.symm; subst hw2) | (go_at_call 55; refine P.mono ?_; rintro e w' ⟨rfl, hw⟩; have hw2 := hw.symm; subst hw2))
    go_ret2
    exact ⟨rfl, s, HH.out, GFr.of_below (Below.refl _ _)⟩
end Go.Proofs.Ytgfiofogcnnkhaa
