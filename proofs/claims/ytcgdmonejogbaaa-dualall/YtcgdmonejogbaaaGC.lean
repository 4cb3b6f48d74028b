/- DualAll: what the program's calls and the document's answer is the same. -/
import Derived.Test.YtcgdmonejogbaaaGB
import Derived.Test.YtcgdmonejogbaaaG3
import Derived.Test.YtcgdmonejogbaaaF8
import Derived.Test.YtcgdmonejogbaaaF9
import Derived.Test.YtcgdmonejogbaaaJ1
import Derived.Test.YtcgdmonejogbaaaF4
import Derived.Test.YtcgdmonejogbaaaF7
import Derived.Test.YtcgdmonejogbaaaH6
import Derived.Test.YtcgdmonejogbaaaS3
import Derived.Test.YtcgdmonejogbaaaW1
import Derived.Test.YtcgdmonejogbaaaWD
import Derived.Deep.DeepCutAuto
import Derived.Deep.QuietTactic
namespace Go.Proofs.Ytcgdmonejogbaaa
open Go.RowKit Go.Sort
open Go
def Bd (E : List Pt) (F : List (List Int)) : Prop := E.length ≤ 20000 ∧ F.length ≤ 20000 ∧ ∀ v, v < F.length → (lat F v).length ≤ 20000
theorem bd_nil : Bd [] [] := ⟨by simp, by simp, fun v hv => by simp at hv⟩
theorem bd_rot {n : Int} {es : List Pt} {rs : List (List Int)} (h : rotI n es rs = 0) : Bd es rs := by
  obtain ⟨_, _, h1, _⟩ := netB_is (rot_is h).1
  obtain ⟨h2, h3⟩ := rot_bounds h
  exact ⟨by omega, by omega, fun v hv => by have := h3 v hv; omega⟩
theorem canon_is {n : Int} {es : List Pt} {rs : List (List Int)} (h : rotI n es rs = 0) : rotI n es (canonL rs) = 0 := by
  have hlow : ∀ l : List Int, ∃ k, k ≤ l.length ∧ turnL l = rotL l k := fun l => by
    by_cases h : lowAt l ≤ l.length
    · exact ⟨lowAt l, h, rfl⟩
    · refine ⟨l.length, Nat.le_refl _, ?_⟩
      unfold turnL rotL
      rw [List.drop_of_length_le (by omega), List.take_of_length_le (by omega), List.drop_length, List.take_length]
  exact (canon_rot h (canonL_length _) fun v hv => by obtain ⟨k, hk, e⟩ := hlow (lat rs v); exact ⟨k, hk, by rw [lat_canon hv]; exact e⟩).1
theorem pa_no {x : Int} {V w' : World} {e : Ending} (he : e = .returned (.tuple #[nv 0 none 0 0, .slice none 0 0, .int .i64 x])) (hb : Below V.heap.size V w') : PA 0 [] [] x V e w' :=
  ⟨none, 0, none, 0, _, he, Or.inl rfl, fun a ha => (by cases ha), LB.nil _ _ _, hb⟩
theorem ra_no {x : Int} {V w' : World} {e : Ending} (he : e = .returned (.tuple #[nv 0 none 0 0, .slice none 0 0, .int .i64 x])) (hb : Below V.heap.size V w') : RA 0 [] [] x V e w' :=
  ⟨none, 0, none, 0, he, Or.inl rfl, Or.inl rfl, hb⟩
theorem po_no {x : Int} {V w' : World} {e : Ending} (he : e = .returned (.tuple #[.slice none 0 0, .int .i64 x])) (hb : Below V.heap.size V w') : PO [] x V e w' := ⟨none, 0, he, IOwns.nil _ _, hb⟩
theorem ro_no {x : Int} {V w' : World} {e : Ending} (he : e = .returned (.tuple #[.slice none 0 0, .int .i64 x])) (hb : Below V.heap.size V w') : RO [] x V e w' := ⟨none, 0, he, Or.inl rfl, hb⟩
theorem prow_block {w : World} {B g n : Nat} {l : List Pt} (h : PRow w B g n l) : ∀ a, some (⟨g, 0, none⟩ : Addr) = some a → B ≤ a.block := fun a ha => by
  cases ha
  exact (World.ownsRow.lt h.2 g rfl).1
theorem rows_rhas {w : World} {B g n : Nat} {rv : Nat → Value} {F : List (List Int)} (h : Rows w B g n rv (fun v => lat F v)) (hn : F.length = n) (hb : ∀ v, v < F.length → (lat F v).length ≤ 20000) : RHas w (some ⟨g, 0, none⟩) F :=
  h.has hn (fun _ _ => rfl) (fun v hv => by have := hb v (by omega); unfold maxLen; omega)
theorem owns_hasL {w : World} {B : Nat} {p : Option Addr} {l c : Nat} {E : List Pt} (h : Owns w B (.slice p l c) E) : Has w p E := by
  obtain ⟨p', c', e, hh, _⟩ := h.form
  injection e with e1 _ _
  rw [e1]
  exact hh
variable {n : Int} {es : List Pt} {rs : List (List Int)}
theorem of_both (h0 : rotI n es rs = 0) : ∃ N E F x, (∀ (ph : Option Addr) (ch : Nat) (qt : Option Addr) (ct : Nat) (V : World), Has V ph es → (ph = none → ch = 0) → RHas V qt rs → rs.length ≤ ct → Calls Try.prog 14 #[nv n ph es.length ch, .slice qt rs.length ct] V fun e w' => PA N E F x V e w') ∧ (∀ (ph : Option Addr) (ch : Nat) (qt : Option Addr) (ct : Nat) (V : World), Has V ph es → (ph = none → ch = 0) → RHas V qt rs → rs.length ≤ ct → Calls Try.prog 24 #[nv n ph es.length ch, .slice qt rs.length ct] V fun e w' => RA N E F x V e w') ∧ Bd E F := by
  obtain ⟨_, _, hes, _⟩ := netB_is (rot_is h0).1
  have hfl := facesL_le h0
  have hbd : Bd (dEs (ofL es rs) es.length) (facesL es rs) := ⟨by rw [dEs_length]; omega, by omega, fun v hv => by have := face_le es rs hv; omega⟩
  by_cases hd : dualB es rs = true
  · refine ⟨(facesL es rs).length, dEs (ofL es rs) es.length, facesL es rs, 0, fun ph ch qt ct V h _ hr _ => ?_, fun ph ch qt ct V h _ hr _ => ?_, hbd⟩
    · refine (dualOf14 n ph es ch qt rs ct V h hr h0).mono ?_
      rintro e w' ⟨hp, hb⟩
      rcases hp with ⟨_, g, p1, c1, rv, he, hrow, hfb⟩ | ⟨h1, _⟩
      · exact ⟨some ⟨g, 0, none⟩, es.length, p1, c1, rv, by rw [dEs_length]; exact he, hrow.has, prow_block hrow, LB.of hfb, hb⟩
      · rw [hd] at h1; cases h1
    · refine (rOf24 n ph es ch qt rs ct V hr h0).mono ?_
      rintro e w' ⟨hp, hb⟩
      rcases hp with ⟨_, q', c, g, rv, he, ho, hR⟩ | ⟨h1, _⟩
      · exact ⟨q', c, some ⟨g, 0, none⟩, (facesL es rs).length, by rw [dEs_length]; exact he, owns_hasL ho, rows_rhas hR rfl hbd.2.2, hb⟩
      · rw [hd] at h1; cases h1
  · refine ⟨0, [], [], 3, fun ph ch qt ct V h _ hr _ => ?_, fun ph ch qt ct V h _ hr _ => ?_, bd_nil⟩
    · refine (dualOf14 n ph es ch qt rs ct V h hr h0).mono ?_
      rintro e w' ⟨hp, hb⟩
      rcases hp with ⟨h1, _⟩ | ⟨_, he⟩
      · exact absurd h1 hd
      · exact pa_no he hb
    · refine (rOf24 n ph es ch qt rs ct V hr h0).mono ?_
      rintro e w' ⟨hp, hb⟩
      rcases hp with ⟨h1, _⟩ | ⟨_, he⟩
      · exact absurd h1 hd
      · exact ra_no he hb
theorem face_both (h0 : rotI n es rs = 0) (va aa : Int) : ∃ fv x : Int, (∀ (ph : Option Addr) (ch : Nat) (qt : Option Addr) (ct : Nat) (V : World), Has V ph es → (ph = none → ch = 0) → RHas V qt rs → rs.length ≤ ct → Calls Try.prog 15 #[nv n ph es.length ch, .slice qt rs.length ct, cv va aa] V fun e w' => e = .returned (.tuple #[.int .i64 fv, .int .i64 x]) ∧ Below V.heap.size V w') ∧ (∀ (ph : Option Addr) (ch : Nat) (qt : Option Addr) (ct : Nat) (V : World), Has V ph es → (ph = none → ch = 0) → RHas V qt rs → rs.length ≤ ct → Calls Try.prog 25 #[nv n ph es.length ch, .slice qt rs.length ct, cv va aa] V fun e w' => e = .returned (.tuple #[.int .i64 fv, .int .i64 x]) ∧ Below V.heap.size V w') := by
  by_cases hc : corB rs va aa = true
  · have hv := corB_lt hc
    obtain ⟨v, rfl⟩ : ∃ v : Nat, va = v := ⟨va.toNat, by omega⟩
    exact ⟨_, _, fun ph ch qt ct V h _ hr hcap => face15 n ph es ch qt rs ct v aa V h hr hcap h0 hc, fun ph ch qt ct V _ _ hr _ => face25 n ph es ch qt rs ct v aa V hr h0 hc⟩
  · exact ⟨_, _, fun ph ch qt ct V h _ hr _ => face15off n ph es ch qt rs ct va aa V h hr h0 hc, fun ph ch qt ct V _ _ hr _ => face25off n ph es ch qt rs ct va aa V hr h0 hc⟩
theorem lay_both (h0 : rotI n es rs = 0) (va aa vb ab : Int) (hl : es.length ≤ 300) : ∃ N E F x, (∀ (ph : Option Addr) (ch : Nat) (qt : Option Addr) (ct : Nat) (V : World), Has V ph es → (ph = none → ch = 0) → RHas V qt rs → rs.length ≤ ct → Calls Try.prog 16 #[nv n ph es.length ch, .slice qt rs.length ct, cv va aa, cv vb ab] V fun e w' => PA N E F x V e w') ∧ (∀ (ph : Option Addr) (ch : Nat) (qt : Option Addr) (ct : Nat) (V : World), Has V ph es → (ph = none → ch = 0) → RHas V qt rs → rs.length ≤ ct → Calls Try.prog 26 #[nv n ph es.length ch, .slice qt rs.length ct, cv va aa, cv vb ab] V fun e w' => RA N E F x V e w') ∧ Bd E F := by
  have hlim : es.length + 1 ≤ 3072 := by omega
  by_cases hc : corB rs va aa = true ∧ corB rs vb ab = true
  · have hrn := (rot_is h0).2.1
    have b1 := corB_lt hc.1
    have b2 := corB_lt hc.2
    obtain ⟨N, rfl⟩ : ∃ N : Nat, n = N := ⟨n.toNat, by omega⟩
    obtain ⟨A, rfl⟩ : ∃ A : Nat, va = A := ⟨va.toNat, by omega⟩
    obtain ⟨B, rfl⟩ : ∃ B : Nat, vb = B := ⟨vb.toNat, by omega⟩
    have hA : A < N := by omega
    have hB : B < N := by omega
    by_cases hg : layG N es rs A aa B ab
    · refine ⟨0, [], [], 5, fun ph ch qt ct V h hnil hr hcap => ?_, fun ph ch qt ct V h hnil hr _ => ?_, bd_nil⟩
      · refine (lay16 N ph es ch qt rs ct A B aa ab V h hnil hr hcap h0 hc.1 hc.2 hA hB).mono ?_
        rintro e w' ⟨hp, hb⟩
        rcases hp with ⟨h1, _⟩ | ⟨_, _, he⟩ | ⟨_, h1, _⟩
        · exact absurd hlim h1
        · exact pa_no he hb
        · exact absurd hg h1
      · refine (lay26 N ph es ch qt rs ct A B aa ab V h hnil hr h0 hc.1 hc.2 hA hB hlim).mono ?_
        rintro e w' ⟨hp, hb⟩
        rcases hp with ⟨h1, _⟩ | ⟨_, _, he⟩ | ⟨_, h1, _⟩
        · exact absurd hlim h1
        · exact ra_no he hb
        · exact absurd hg h1
    · have hlr := lay_rot (aa := aa) (ab := ab) h0 hA hB (by rw [lay_net (rot_is h0).1 hA hB]; exact decide_eq_true hlim)
      have hbd := bd_rot (canon_is hlr)
      have hlen : (canonL (betR rs A aa B ab (2 * es.length : Nat))).length = rs.length := by rw [canonL_length, betR_length]
      refine ⟨N, layN es A B, canonL (betR rs A aa B ab (2 * es.length : Nat)), 0, fun ph ch qt ct V h hnil hr hcap => ?_, fun ph ch qt ct V h hnil hr _ => ?_, hbd⟩
      · refine (lay16 N ph es ch qt rs ct A B aa ab V h hnil hr hcap h0 hc.1 hc.2 hA hB).mono ?_
        rintro e w' ⟨hp, hb⟩
        rcases hp with ⟨h1, _⟩ | ⟨_, h1, _⟩ | ⟨_, _, px, cx, g, rv, he, hh, hx, hrow⟩
        · exact absurd hlim h1
        · exact absurd h1 hg
        · exact ⟨px, cx, some ⟨g, 0, none⟩, rs.length, rv, by rw [layN_length, hlen]; exact he, hh, hx.2, rows_lb hrow hlen, hb⟩
      · refine (lay26 N ph es ch qt rs ct A B aa ab V h hnil hr h0 hc.1 hc.2 hA hB hlim).mono ?_
        rintro e w' ⟨hp, hb⟩
        rcases hp with ⟨h1, _⟩ | ⟨_, h1, _⟩ | ⟨_, _, px, cx, g, rv, he, hh, hx, hrow⟩
        · exact absurd hlim h1
        · exact absurd h1 hg
        · exact ⟨px, cx, some ⟨g, 0, none⟩, rs.length, by rw [layN_length, hlen]; exact he, hh, rows_rhas hrow hlen hbd.2.2, hb⟩
  · exact ⟨0, [], [], 2, fun ph ch qt ct V h _ hr _ => (lay16off n ph es ch qt rs ct va aa vb ab V h hr h0 hc).mono fun e w' ⟨he, hb⟩ => pa_no he hb, fun ph ch qt ct V _ _ hr _ => (lay26off n ph es ch qt rs ct va aa vb ab V hr h0 hc).mono fun e w' ⟨he, hb⟩ => ra_no he hb, bd_nil⟩
theorem take_both (h0 : rotI n es rs = 0) (e0 : Int) : ∃ N E F x, (∀ (ph : Option Addr) (ch : Nat) (qt : Option Addr) (ct : Nat) (V : World), Has V ph es → (ph = none → ch = 0) → RHas V qt rs → rs.length ≤ ct → Calls Try.prog 17 #[nv n ph es.length ch, .slice qt rs.length ct, .int .i64 e0] V fun e w' => PA N E F x V e w') ∧ (∀ (ph : Option Addr) (ch : Nat) (qt : Option Addr) (ct : Nat) (V : World), Has V ph es → (ph = none → ch = 0) → RHas V qt rs → rs.length ≤ ct → Calls Try.prog 27 #[nv n ph es.length ch, .slice qt rs.length ct, .int .i64 e0] V fun e w' => RA N E F x V e w') ∧ Bd E F := by
  by_cases hc : 0 ≤ e0 ∧ e0 < es.length
  · have hrn := (rot_is h0).2.1
    obtain ⟨N, rfl⟩ : ∃ N : Nat, n = N := ⟨n.toNat, by omega⟩
    obtain ⟨a, rfl⟩ : ∃ A : Nat, e0 = A := ⟨e0.toNat, by omega⟩
    have hbd := bd_rot (canon_is (sub_rot (kpE_err a es.length) h0))
    have hlen : (canonL (subL es rs (kpE a es.length))).length = rs.length := by rw [canonL_length, subL_length]
    have hpl : (pick es (kpE a es.length)).length = (kpE a es.length).length := by simp [pick]
    refine ⟨N, pick es (kpE a es.length), canonL (subL es rs (kpE a es.length)), 0, fun ph ch qt ct V h hnil hr hcap => ?_, fun ph ch qt ct V h hnil hr _ => ?_, hbd⟩
    · refine (take17 N ph es ch qt rs ct a V h hr h0 (by omega)).mono ?_
      rintro e w' ⟨g, g5, rv, he, hp, hrow, hb⟩
      exact ⟨some ⟨g, 0, none⟩, _, some ⟨g5, 0, none⟩, rs.length, rv, by rw [hpl, hlen]; exact he, hp.has, prow_block hp, rows_lb hrow hlen, hb⟩
    · refine (take27 N ph es ch qt rs ct a V h hr h0 (by omega)).mono ?_
      rintro e w' ⟨q', c, g5, rv, he, hh, hrow, hb⟩
      exact ⟨q', c, some ⟨g5, 0, none⟩, rs.length, by rw [hpl, hlen]; exact he, hh, rows_rhas hrow hlen hbd.2.2, hb⟩
  · exact ⟨0, [], [], 2, fun ph ch qt ct V h _ hr _ => (take17off n ph es ch qt rs ct e0 V h hr h0 hc).mono fun e w' ⟨he, hb⟩ => pa_no he hb, fun ph ch qt ct V _ _ hr _ => (take27off n ph es ch qt rs.length ct e0 V hc).mono fun e w' ⟨he, hb⟩ => ra_no he hb, bd_nil⟩
theorem split_both (h0 : rotI n es rs = 0) (e0 : Int) (hl : es.length ≤ 300) (hn : n ≤ 300) : ∃ N E F x, (∀ (ph : Option Addr) (ch : Nat) (qt : Option Addr) (ct : Nat) (V : World), Has V ph es → (ph = none → ch = 0) → RHas V qt rs → rs.length ≤ ct → Calls Try.prog 18 #[nv n ph es.length ch, .slice qt rs.length ct, .int .i64 e0] V fun e w' => PA N E F x V e w') ∧ (∀ (ph : Option Addr) (ch : Nat) (qt : Option Addr) (ct : Nat) (V : World), Has V ph es → (ph = none → ch = 0) → RHas V qt rs → rs.length ≤ ct → Calls Try.prog 28 #[nv n ph es.length ch, .slice qt rs.length ct, .int .i64 e0] V fun e w' => RA N E F x V e w') ∧ Bd E F := by
  have hrn := (rot_is h0).2.1
  obtain ⟨N, rfl⟩ : ∃ N : Nat, n = N := ⟨n.toNat, by omega⟩
  by_cases hc : 0 ≤ e0 ∧ e0 < es.length
  · obtain ⟨a, rfl⟩ : ∃ A : Nat, e0 = A := ⟨e0.toNat, by omega⟩
    have hE : splitE N es a = 0 := by
      unfold splitE
      rw [if_pos (rot_is h0).1, if_pos (by simp [belowB]; omega), if_pos (by simp [fitsB]; omega)]
    have hbd := bd_rot (canon_is (split_rot h0 hE).2)
    have hlen : (canonL (spR es rs a)).length = rs.length + 1 := by rw [canonL_length, spR_length]
    refine ⟨(N : Int) + 1, splitL N es a, canonL (spR es rs a), 0, fun ph ch qt ct V h hnil hr hcap => ?_, fun ph ch qt ct V h hnil hr _ => ?_, hbd⟩
    · refine (split18 N ph es ch qt rs ct a V h hr h0 hE).mono ?_
      rintro e w' ⟨g, g5, rv, he, hp, hrow, hb⟩
      exact ⟨some ⟨g, 0, none⟩, _, some ⟨g5, 0, none⟩, rs.length + 1, rv, by rw [splitL_length, hlen]; exact he, hp.has, prow_block hp, rows_lb hrow hlen, hb⟩
    · refine (split28 N ph es ch qt rs ct a V h hnil hr h0 hE).mono ?_
      rintro e w' ⟨q', c, g5, rv, he, hh, hrow, hb⟩
      exact ⟨q', c, some ⟨g5, 0, none⟩, rs.length + 1, by rw [splitL_length, hlen]; exact he, hh, rows_rhas hrow hlen hbd.2.2, hb⟩
  · have hE : splitE N es e0 = 2 := by
      unfold splitE
      rw [if_pos (rot_is h0).1, if_neg (by simp [belowB]; omega)]
    refine ⟨0, [], [], 2, fun ph ch qt ct V h _ hr _ => ?_, fun ph ch qt ct V _ _ hr _ => (split28off N ph es ch qt rs.length ct e0 V hc).mono fun e w' ⟨he, hb⟩ => ra_no he hb, bd_nil⟩
    have := split18off N ph es ch qt rs ct e0 V h hr h0 (by rw [hE]; decide)
    rw [hE] at this
    exact this.mono fun e w' ⟨he, hb⟩ => pa_no he hb
theorem hop_both (h0 : rotI n es rs = 0) (a b : Int) : ∃ O x, (∀ (ph : Option Addr) (ch : Nat) (qt : Option Addr) (ct : Nat) (V : World), Has V ph es → (ph = none → ch = 0) → RHas V qt rs → rs.length ≤ ct → Calls Try.prog 19 #[nv n ph es.length ch, .slice qt rs.length ct, .int .i64 a, .int .i64 b] V fun e w' => PO O x V e w') ∧ (∀ (ph : Option Addr) (ch : Nat) (qt : Option Addr) (ct : Nat) (V : World), Has V ph es → (ph = none → ch = 0) → RHas V qt rs → rs.length ≤ ct → Calls Try.prog 29 #[nv n ph es.length ch, .slice qt rs.length ct, .int .i64 a, .int .i64 b] V fun e w' => RO O x V e w') ∧ O.length ≤ 20000 := by
  by_cases hc : (0 ≤ a ∧ a < (facesL es rs).length) ∧ 0 ≤ b ∧ b < (facesL es rs).length
  · obtain ⟨A, rfl⟩ : ∃ A : Nat, a = A := ⟨a.toNat, by omega⟩
    obtain ⟨B, rfl⟩ : ∃ B : Nat, b = B := ⟨b.toNat, by omega⟩
    by_cases hd : 0 ≤ iat (dist (facesL es rs) (ofL es rs) B) A
    · have hlen : (hopR es rs A B).length ≤ 20000 := by
        have h1 := (hopR_len (n := n) (es := es) (rs := rs) (a := A) (b := B) ?_).2
        · have := facesL_le h0; omega
        · exact ⟨h0, hc, by rw [Int.toNat_natCast, Int.toNat_natCast]; exact hd⟩
      refine ⟨hopR es rs A B, 0, fun ph ch qt ct V h _ hr _ => ?_, fun ph ch qt ct V h _ hr _ => ?_, hlen⟩
      · refine (hop19 n ph es ch qt rs ct A B V h hr h0 (by omega) (by omega)).mono ?_
        rintro e w' ⟨hp, hb⟩
        rcases hp with ⟨h1, _⟩ | ⟨_, p1, c1, he, ho⟩
        · omega
        · exact ⟨p1, c1, he, ho, hb⟩
      · refine (rHop29 n ph es ch qt rs ct A B V hr h0 (by omega) (by omega)).mono ?_
        rintro e w' ⟨hp, hb⟩
        rcases hp with ⟨h1, _⟩ | ⟨_, p1, c1, he, ho⟩
        · omega
        · exact ⟨p1, c1, he, ihas_own ho, hb⟩
    · refine ⟨[], 14, fun ph ch qt ct V h _ hr _ => ?_, fun ph ch qt ct V h _ hr _ => ?_, by simp⟩
      · refine (hop19 n ph es ch qt rs ct A B V h hr h0 (by omega) (by omega)).mono ?_
        rintro e w' ⟨hp, hb⟩
        rcases hp with ⟨_, he⟩ | ⟨h1, _⟩
        · exact po_no he hb
        · exact absurd h1 hd
      · refine (rHop29 n ph es ch qt rs ct A B V hr h0 (by omega) (by omega)).mono ?_
        rintro e w' ⟨hp, hb⟩
        rcases hp with ⟨_, he⟩ | ⟨h1, _⟩
        · exact ro_no he hb
        · exact absurd h1 hd
  · exact ⟨[], 2, fun ph ch qt ct V h _ hr _ => (hop19off n ph es ch qt rs ct a b V h hr h0 hc).mono fun e w' ⟨he, hb⟩ => po_no he hb, fun ph ch qt ct V _ _ hr _ => (rHop29off n ph es ch qt rs ct a b V hr h0 hc).mono fun e w' ⟨he, hb⟩ => ro_no he hb, by simp⟩
theorem light_is (h : lightB n es = true) (hm : netB n es = true) : es.length ≤ 300 ∧ n ≤ 300 := by
  unfold lightB at h
  rw [hm] at h
  simp at h
  exact h
theorem all_walk (n : Int) (p : Option Addr) (es : List Pt) (cp : Nat) (q : Option Addr) (rs : List (List Int)) (cq : Nat) (va aa vb ab e0 f0 t0 : Int) (w : World) (h : Has w p es) (hnil : p = none → cp = 0) (hr : RHas w q rs) (hcap : rs.length ≤ cq) (hn : (rs.length + 1) * 24 ≤ 140737488355328) (hl : ∀ v, v < rs.length → ((lat rs v).length + 1) * 8 ≤ 140737488355328) : Calls Try.prog 3 #[nv n p es.length cp, .slice q rs.length cq, cv va aa, cv vb ab, .int .i64 e0, .int .i64 f0, .int .i64 t0] w fun e w' => e = .returned (.bool true) ∧ Below w.heap.size w w' := by
  by_cases h0 : rotI n es rs = 0
  · by_cases hlt : lightB n es = true
    · obtain ⟨hl1, hl2⟩ := light_is hlt (rot_is h0).1
      obtain ⟨N1, E1, F1, x1, C14, R24, b1⟩ := of_both h0
      obtain ⟨fv, x2, C15, R25⟩ := face_both h0 va aa
      obtain ⟨N3, E3, F3, x3, C16, R26, b3⟩ := lay_both h0 va aa vb ab hl1
      obtain ⟨N4, E4, F4, x4, C17, R27, b4⟩ := take_both h0 e0
      obtain ⟨N5, E5, F5, x5, C18, R28, b5⟩ := split_both h0 e0 hl1 hl2
      obtain ⟨O6, x6, C19, R29, b6⟩ := hop_both h0 f0 t0
      exact all_yes n p es cp q rs cq va aa vb ab e0 f0 t0 w h hnil hr hcap hn hl N1 N3 N4 N5 fv E1 E3 E4 E5 F1 F3 F4 F5 O6 x1 x2 x3 x4 x5 x6 (fun _ => C14) (fun _ => C15) (fun _ => C16) (fun _ => C17) (fun _ => C18) (fun _ => C19) (fun _ => R24) (fun _ => R25) (fun _ => R26) (fun _ => R27) (fun _ => R28) (fun _ => R29) h0 b1 b3 b4 b5 b6
    · have no : ∀ {P : Prop}, lightB n es = true → P := fun e => absurd e hlt
      exact all_yes n p es cp q rs cq va aa vb ab e0 f0 t0 w h hnil hr hcap hn hl 0 0 0 0 0 [] [] [] [] [] [] [] [] [] 0 0 0 0 0 0 no no no no no no no no no no no no h0 bd_nil bd_nil bd_nil bd_nil (by simp)
  · exact all_no n p es cp q rs cq va aa vb ab e0 f0 t0 w h hnil hr hcap hn hl [] [] [] [] [] [] [] [] [] (rotI n es rs) h0
      (fun _ ph ch qt ct V h _ hr _ => (dualOf14no n ph es ch qt rs ct V h hr h0).mono fun e w' ⟨he, hb⟩ => pa_no he hb)
      (fun _ ph ch qt ct V h _ hr _ => face15no n ph es ch qt rs ct va aa V h hr h0)
      (fun _ ph ch qt ct V h _ hr _ => (lay16no n ph es ch qt rs ct va aa vb ab V h hr h0).mono fun e w' ⟨he, hb⟩ => pa_no he hb)
      (fun _ ph ch qt ct V h _ hr _ => (take17no n ph es ch qt rs ct e0 V h hr h0).mono fun e w' ⟨he, hb⟩ => pa_no he hb)
      (fun _ ph ch qt ct V h _ hr _ => (split18no n ph es ch qt rs ct e0 V h hr h0).mono fun e w' ⟨he, hb⟩ => pa_no he hb)
      (fun _ ph ch qt ct V h _ hr _ => (hop19no n ph es ch qt rs ct f0 t0 V h hr h0).mono fun e w' ⟨he, hb⟩ => po_no he hb)
      rfl bd_nil bd_nil bd_nil bd_nil (by simp) ⟨rfl, rfl, rfl, rfl, rfl⟩
end Go.Proofs.Ytcgdmonejogbaaa
