/- NetTwo where it looks: the pieces. -/
import Derived.Test.YtmmbbfmkhbengaaT3
import Derived.Test.YtmmbbfmkhbengaaT5
import Derived.Test.YtmmbbfmkhbengaaT6
import Derived.Test.YtmmbbfmkhbengaaT7
import Derived.Deep.DeepCutAuto
namespace Go.Proofs.Ytmmbbfmkhbengaa
open Go.RowKit Go.Sort
open Go

def jN (n m : Int) (a b : List Pt) : Int := if joinE n m a b = 0 then n + m else 0
def jL (n m : Int) (a b : List Pt) : List Pt := if joinE n m a b = 0 then joinL n a b else []
def mN (n : Int) (es : List Pt) (l : List Int) : Int := if movE n es l = 0 then n else 0
def mL (n : Int) (es : List Pt) (l : List Int) : List Pt := if movE n es l = 0 then rename es l else []
theorem JoinPost.one {n m : Int} {a b : List Pt} {w w' : World} {e : Ending} (h : JoinPost n m a b w e w') : ∃ q c, e = .returned (.tuple #[nv (jN n m a b) q (jL n m a b).length c, .int .i64 (joinE n m a b)]) ∧ Has w' q (jL n m a b) := by
  rcases h with ⟨h0, q, c, rfl, o⟩ | ⟨h0, rfl⟩
  · obtain ⟨p1, c1, h1, h2, _, _, _⟩ := o.form
    simp only [Value.slice.injEq] at h1
    exact ⟨q, c, by unfold jN jL; rw [if_pos h0, if_pos h0, h0], by unfold jL; rw [if_pos h0, h1.1]; exact h2⟩
  · exact ⟨none, 0, by unfold jN jL; rw [if_neg h0, if_neg h0]; rfl, by unfold jL; rw [if_neg h0]; exact Or.inl rfl⟩
theorem MovedPost.one {n : Int} {es : List Pt} {l : List Int} {w w' : World} {e : Ending} (h : MovedPost n es l w e w') : ∃ q c, e = .returned (.tuple #[nv (mN n es l) q (mL n es l).length c, .int .i64 (movE n es l)]) ∧ Has w' q (mL n es l) := by
  rcases h with ⟨h0, g, rfl, o⟩ | ⟨h0, rfl⟩
  · exact ⟨some ⟨g, 0, none⟩, es.length, by unfold mN mL; rw [if_pos h0, if_pos h0, h0, o.1], by unfold mL; rw [if_pos h0]; exact o.has⟩
  · exact ⟨none, 0, by unfold mN mL; rw [if_neg h0, if_neg h0]; rfl, by unfold mL; rw [if_neg h0]; exact Or.inl rfl⟩
theorem RMovedPost.one {n : Int} {es : List Pt} {l : List Int} {w w' : World} {e : Ending} (h : RMovedPost n es l w e w') : ∃ q c, e = .returned (.tuple #[nv (mN n es l) q (mL n es l).length c, .int .i64 (movE n es l)]) ∧ Has w' q (mL n es l) := by
  rcases h with ⟨h0, q, c, rfl, o⟩ | ⟨h0, rfl⟩
  · rw [← rename_length es l] at o
    obtain ⟨p1, c1, h1, h2, _, _, _⟩ := o.form
    simp only [Value.slice.injEq] at h1
    exact ⟨q, c, by unfold mN mL; rw [if_pos h0, if_pos h0, h0, rename_length], by unfold mL; rw [if_pos h0, h1.1]; exact h2⟩
  · exact ⟨none, 0, by unfold mN mL; rw [if_neg h0, if_neg h0]; rfl, by unfold mL; rw [if_neg h0]; exact Or.inl rfl⟩
theorem sameB_self (n : Int) (a : List Pt) : sameB n n a a = true := by unfold sameB; simp
theorem own_fresh (w : World) : NOwn (w.alloc (nbx 0 none 0 0)) w.heap.size 0 none 0 0 := ⟨by unfold nbx; go_cell, by unfold nbx; go_cell, by unfold nbx; go_cell, by unfold nbx; go_cell⟩
theorem own_under (w : World) (o : Obj) : NOwn ((w.alloc (nbx 0 none 0 0)).alloc o) w.heap.size 0 none 0 0 := ⟨by unfold nbx; go_cell, by unfold nbx; go_cell, by unfold nbx; go_cell, by unfold nbx; go_cell⟩
theorem own_over (w : World) (o : Obj) : NOwn ((w.alloc o).alloc (nbx 0 none 0 0)) (w.heap.size + 1) 0 none 0 0 := ⟨by unfold nbx; go_cell, by unfold nbx; go_cell, by unfold nbx; go_cell, by unfold nbx; go_cell⟩
theorem NOwn.alloc {w : World} {k : Nat} (h : NOwn w k 0 none 0 0) (o : Obj) : NOwn (w.alloc o) k 0 none 0 0 := h.later (by go_grown)
theorem twin_facts {w : World} {B g c : Nat} {es : List Pt} (o : Owns w B (.slice (some ⟨g, 0, none⟩) (es.length + 1) c) (es ++ [mk])) : Lies w g 0 (es ++ [mk]) ∧ B ≤ g ∧ g < w.heap.size := by
  have hel : (es ++ [mk]).length = es.length + 1 := by simp
  rw [← hel] at o
  obtain ⟨g1, c1, hv, _, h1, h2⟩ := owns_block o (by simp)
  simp only [Value.slice.injEq, Option.some.injEq, Addr.mk.injEq] at hv
  rw [hv.1.1]
  rw [hv.1.1] at o
  exact ⟨o.lies, h1, h2⟩
theorem Lies.alloc {w : World} {b off : Nat} {ps : List Pt} (h : Lies w b off ps) (o : Obj) : Lies (w.alloc o) b off ps := h.later (by go_grown)
theorem Lies.other {w : World} {b off : Nat} {ps : List Pt} (h : Lies w b off ps) {k i : Nat} (hk : k ≠ b) (v : Value) : Lies (w.setCell ⟨k, i, none⟩ v) b off ps := fun j hj => by
  obtain ⟨h0, h1⟩ := h j hj
  exact ⟨by rw [World.cell?_setCell_other _ _ _ _ (fun e => hk (by simpa using congrArg Addr.block e))]; exact h0, by rw [World.cell?_setCell_other _ _ _ _ (fun e => hk (by simpa using congrArg Addr.block e))]; exact h1⟩
theorem light_len {n : Int} {es : List Pt} (h : lightB n es = true) : es.length ≤ 90000 := by unfold lightB at h; simp at h; omega
theorem joinE_no1 {n m : Int} {a b : List Pt} (h : netB n a = false) : joinE n m a b = 1 := by unfold joinE; rw [h]; simp
theorem joinE_no2 {n m : Int} {a b : List Pt} (h : netB m b = false) : joinE n m a b = 1 := by unfold joinE; rw [h]; simp
theorem movE_no {n : Int} {es : List Pt} {l : List Int} (h : netB n es = false) : movE n es l = 1 := by unfold movE; rw [h]; simp
theorem mL_len {n : Int} {es ML : List Pt} {l : List Int} (h : es.length ≤ 90000) (e : mL n es l = ML) : ML.length ≤ 1000000000 := by
  rw [← e]; unfold mL; split
  · rw [rename_length]; omega
  · simp
theorem jL_len {n m : Int} {a b JL : List Pt} (h : a.length ≤ 90000) (k : b.length ≤ 90000) (e : jL n m a b = JL) : JL.length ≤ 1000000000 := by
  rw [← e]; unfold jL; split
  · rw [joinL_length]; omega
  · simp
/-- Both twins are there, in boxes of their own. -/
def TwoReady (U V : World) (n m : Int) (a b : List Pt) (kx ky gx gy cx cy : Nat) : Prop :=
  Below U.heap.size U V ∧ NOwn V kx n (some ⟨gx, 0, none⟩) a.length cx ∧ NOwn V ky m (some ⟨gy, 0, none⟩) b.length cy ∧ Lies V gx 0 (a ++ [mk]) ∧ Lies V gy 0 (b ++ [mk]) ∧ a.length + 1 ≤ cx ∧ b.length + 1 ≤ cy ∧ U.heap.size ≤ kx ∧ U.heap.size ≤ ky
set_option maxRecDepth 100000 in
set_option maxHeartbeats 8000000 in
theorem two_looks (n m : Int) (p q q1 : Option Addr) (a b : List Pt) (l : List Int) (cp cq c1 : Nat) (w : World) (h : Has w p a) (k : Has w q b) (hnp : p = none → cp = 0) (hnq : q = none → cq = 0) (kl : IHas w q1 l) (hp : passB n m a b l = false) :
    Calls Try.prog 4 #[nv n p a.length cp, nv m q b.length cq, .slice q1 l.length c1] w fun e w' => e = .returned (.bool true) ∧ Below w.heap.size w w' := by
  obtain ⟨W, hW, hb, a0, b0⟩ := two_args w n m p q a.length b.length cp cq
  have HL := hide (kl.later hb)
  have HB := hide hb
  have HA := hide a0
  have HC := hide b0
  have HH := hide (h.later hb)
  have HK := hide (k.later hb)
  clear h k kl hb a0 b0
  go_enter Try.func4, Try.ntmps4
  go_wp2_with fail
  rw [← hW]
  clear hW
  refine (begun8 _).mono ?_
  rintro e w1 ⟨rfl, hb1⟩
  have HB1 := hide (below_step HB.out hb1)
  have HA1 := hide (HA.out.later hb1)
  have HC1 := hide (HC.out.later hb1)
  have HH1 := hide (HH.out.later hb1)
  have HK1 := hide (HK.out.later hb1)
  have HL1 := hide (HL.out.later hb1)
  clear hb1 HB HA HC HH HK HL
  have M := hide (light9 n p a cp w1 HH1.out)
  obtain ⟨q0, q1', _, _⟩ := HA1.out
  go_wp2_with fail
  refine M.out.mono ?_
  rintro e w2 ⟨rfl, hb2⟩
  have HB2 := hide (below_step HB1.out hb2)
  have HC2 := hide (HC1.out.later hb2)
  have HK2 := hide (HK1.out.later hb2)
  have HA2 := hide (HA1.out.later hb2)
  have HH2 := hide (HH1.out.later hb2)
  have HL2 := hide (HL1.out.later hb2)
  clear hb2 q0 q1' HB1 HA1 HC1 HH1 HK1 HL1 M
  have h1 : lightB n a = true := by unfold passB at hp; simp at hp; exact hp.1.1
  have h2 : lightB m b = true := by unfold passB at hp; simp at hp; exact hp.1.2
  have h3 : decide (l.length ≤ 400) = true := by unfold passB at hp; simp at hp; simpa using hp.2
  rw [h1]
  have M := hide (light9 m q b cq w2 HK2.out)
  obtain ⟨x0, x1, _, _⟩ := HC2.out
  go_wp2_with fail
  refine M.out.mono ?_
  rintro e w3 ⟨rfl, hb3⟩
  have HB3 := hide (below_step HB2.out hb3)
  have HA3 := hide (HA2.out.later hb3)
  have HC3 := hide (HC2.out.later hb3)
  have HH3 := hide (HH2.out.later hb3)
  have HK3 := hide (HK2.out.later hb3)
  have HL := hide (HL2.out.later hb3)
  clear hb3 x0 x1 HB2 HC2 HK2 HA2 HH2 HL2 M
  rw [h2]
  have FW := few10 q1 l.length c1
  rw [h3] at FW
  go_upto_region 5 with (go_at_call 10; with_reducible refine (FW _).mono ?_; rintro e w' ⟨rfl, hw⟩; have hw := hw.symm; subst hw)
  have hla : a.length ≤ 90000 := light_len h1
  have hlb : b.length ≤ 90000 := light_len h2
  have hl4 : l.length ≤ 400 := of_decide_eq_true h3
  clear FW h1 h2 h3
  go_cut [7, 8] (fun s7 s8 wx => ∃ kx ky gx gy cx cy, s7 = .pointer (some ⟨kx, 0, none⟩) ∧ s8 = .pointer (some ⟨ky, 0, none⟩) ∧ TwoReady w3 wx n m a b kx ky gx gy cx cy)
  case first =>
    have SK : ∀ W, Below w3.heap.size w3 W → Below w3.heap.size w3 W ∧ W.cell? ⟨w.heap.size, 0, none⟩ = some (.int .i64 n) ∧ W.cell? ⟨w.heap.size, 1, none⟩ = some (.slice p a.length cp) ∧ W.cell? ⟨w.heap.size + 1, 0, none⟩ = some (.int .i64 m) ∧ W.cell? ⟨w.heap.size + 1, 1, none⟩ = some (.slice q b.length cq) := fun W hB => ⟨hB, later hB HA3.out.1, later hB HA3.out.2.1, later hB HC3.out.1, later hB HC3.out.2.1⟩
    have SK' := hide SK
    clear SK
    go_region_held3 (fun W => Below w3.heap.size w3 W ∧ W.cell? ⟨w.heap.size, 0, none⟩ = some (.int .i64 n) ∧ W.cell? ⟨w.heap.size, 1, none⟩ = some (.slice p a.length cp) ∧ W.cell? ⟨w.heap.size + 1, 0, none⟩ = some (.int .i64 m) ∧ W.cell? ⟨w.heap.size + 1, 1, none⟩ = some (.slice q b.length cq))
      (first | exact SK'.out _ (below_drew _) | exact SK'.out _ (by go_grown) | exact SK'.out _ (by assumption) | exact SK'.out _ (Below.alloc (‹Below w3.heap.size w3 _ ∧ _›).1 (Below.size (‹Below w3.heap.size w3 _ ∧ _›).1) _) | (refine SK'.out _ ?_; repeat (first | assumption | refine Below.setCell ?_ (by first | omega | (simp; done) | (simp; omega) | (dsimp only; omega)) _ | refine Below.alloc ?_ (by first | omega | (simp; done) | (simp; omega)) _)))
      (first | (go_at_call 11; have hB := (‹Below w3.heap.size w3 _ ∧ _›).1; (with_reducible refine (twin11 n p a cp _ hnp hla (HH3.out.later hB)).mono ?_); rintro e w4 ⟨g, c, rfl, o, hc, hb⟩; have hz := hb.size; have hy := hB.size; obtain ⟨lx, bx, dx⟩ := twin_facts o; (try simp at bx); have hB4 := below_step hB hb; have hs4 := hB4.size; (try (have y1 : NOwn w4 w3.heap.size 0 none 0 0 := NOwn.later (by first | exact own_fresh _ | exact own_under _ _ | exact own_over _ _ | exact NOwn.later (own_fresh _) (below_drew _) | exact NOwn.later (own_under _ _) (below_drew _) | exact NOwn.later (own_over _ _) (below_drew _)) hb; obtain ⟨_, _, _, _⟩ := y1; have : w3.heap.size < w4.heap.size := block_lt_of_cell (by assumption : w4.cell? ⟨w3.heap.size, 0, none⟩ = some (.int .i64 0)); have : w3.heap.size ≠ w4.heap.size := Nat.ne_of_lt this)); (try (have y2 : NOwn w4 (w3.heap.size + 1) 0 none 0 0 := NOwn.later (by first | exact own_fresh _ | exact own_under _ _ | exact own_over _ _ | exact NOwn.later (own_fresh _) (below_drew _) | exact NOwn.later (own_under _ _) (below_drew _) | exact NOwn.later (own_over _ _) (below_drew _)) hb; obtain ⟨_, _, _, _⟩ := y2; have : (w3.heap.size + 1) < w4.heap.size := block_lt_of_cell (by assumption : w4.cell? ⟨(w3.heap.size + 1), 0, none⟩ = some (.int .i64 0)); have : (w3.heap.size + 1) ≠ w4.heap.size := Nat.ne_of_lt this))) | (go_at_call 11; have hB := (‹Below w3.heap.size w3 _ ∧ _›).1; (with_reducible refine (twin11 m q b cq _ hnq hlb (HK3.out.later hB)).mono ?_); rintro e w5 ⟨g', c', rfl, o', hc', hb⟩; have hz := hb.size; have hy := hB.size; obtain ⟨ly, by0, dy⟩ := twin_facts o'; (try simp at by0); (try simp at hz); have lz : Lies w5 g 0 (a ++ [mk]) := (by first | exact lx.later hb | exact (lx.later (by go_grown)).later hb); have hB5 := below_step hB hb; have hs5 := hB5.size; (try (have y3 : NOwn w5 w3.heap.size 0 none 0 0 := NOwn.later (by first | exact ⟨by assumption, by assumption, by assumption, by assumption⟩ | exact NOwn.alloc ⟨by assumption, by assumption, by assumption, by assumption⟩ _ | exact NOwn.alloc (NOwn.alloc ⟨by assumption, by assumption, by assumption, by assumption⟩ _) _) hb; obtain ⟨_, _, _, _⟩ := y3; have : w3.heap.size < w5.heap.size := block_lt_of_cell (by assumption : w5.cell? ⟨w3.heap.size, 0, none⟩ = some (.int .i64 0)); have : w3.heap.size ≠ w5.heap.size := Nat.ne_of_lt this)); (try (have y4 : NOwn w5 (w3.heap.size + 1) 0 none 0 0 := NOwn.later (by first | exact ⟨by assumption, by assumption, by assumption, by assumption⟩ | exact NOwn.alloc ⟨by assumption, by assumption, by assumption, by assumption⟩ _ | exact NOwn.alloc (NOwn.alloc ⟨by assumption, by assumption, by assumption, by assumption⟩ _) _) hb; obtain ⟨_, _, _, _⟩ := y4; have : (w3.heap.size + 1) < w5.heap.size := block_lt_of_cell (by assumption : w5.cell? ⟨(w3.heap.size + 1), 0, none⟩ = some (.int .i64 0)); have : (w3.heap.size + 1) ≠ w5.heap.size := Nat.ne_of_lt this)); (try (have y5 : NOwn w5 w4.heap.size 0 none 0 0 := NOwn.later (by first | exact own_fresh _ | exact own_under _ _ | exact own_over _ _ | exact NOwn.later (own_fresh _) (below_drew _) | exact NOwn.later (own_under _ _) (below_drew _) | exact NOwn.later (own_over _ _) (below_drew _)) hb; obtain ⟨_, _, _, _⟩ := y5; have : w4.heap.size < w5.heap.size := block_lt_of_cell (by assumption : w5.cell? ⟨w4.heap.size, 0, none⟩ = some (.int .i64 0)); have : w4.heap.size ≠ w5.heap.size := Nat.ne_of_lt this)); (try (have y6 : NOwn w5 (w4.heap.size + 1) 0 none 0 0 := NOwn.later (by first | exact own_fresh _ | exact own_under _ _ | exact own_over _ _ | exact NOwn.later (own_fresh _) (below_drew _) | exact NOwn.later (own_under _ _) (below_drew _) | exact NOwn.later (own_over _ _) (below_drew _)) hb; obtain ⟨_, _, _, _⟩ := y6; have : (w4.heap.size + 1) < w5.heap.size := block_lt_of_cell (by assumption : w5.cell? ⟨(w4.heap.size + 1), 0, none⟩ = some (.int .i64 0)); have : (w4.heap.size + 1) ≠ w5.heap.size := Nat.ne_of_lt this))))
    all_goals go_wp2_with fail
    all_goals go_meet
    all_goals
      refine ⟨_, _, g, g', c, c', rfl, rfl, (‹Below w3.heap.size w3 _ ∧ _›).1, ?_, ?_, ?_, ?_, hc, hc', ?_, ?_⟩
      · refine ⟨?_, ?_, ?_, ?_⟩ <;> go_cell
      · refine ⟨?_, ?_, ?_, ?_⟩ <;> go_cell
      · repeat (first | (with_reducible exact lz) | (with_reducible exact ly) | (with_reducible refine Lies.alloc ?_ _) | (with_reducible refine Lies.other ?_ ?hne _; case hne => omega))
      · repeat (first | (with_reducible exact lz) | (with_reducible exact ly) | (with_reducible refine Lies.alloc ?_ _) | (with_reducible refine Lies.other ?_ ?hne _; case hne => omega))
      · first | omega | (simp; done) | (simp; omega)
      · first | omega | (simp; done) | (simp; omega)
  case rest =>
    obtain ⟨kx, ky, gx, gy, cx, cy, rfl, rfl, hb4, nx, ny, lx, ly, hcx, hcy, _, _⟩ := hcut
    have HB4 := hide (below_step HB3.out hb4)
    have HA4 := hide (HA3.out.later hb4)
    have HC4 := hide (HC3.out.later hb4)
    have HH4 := hide (HH3.out.later hb4)
    have HK4 := hide (HK3.out.later hb4)
    have HL4 := hide (HL.out.later hb4)
    have HX4 := hide nx
    have HY4 := hide ny
    have LX4 := hide lx
    have LY4 := hide ly
    have JN := hide (join19 n m (some ⟨gx, 0, none⟩) (some ⟨gy, 0, none⟩) a b cx cy wc (fun h => by cases h) (Or.inr ⟨gx, 0, rfl, lies_left lx⟩) (Or.inr ⟨gy, 0, rfl, lies_left ly⟩))
    clear hb4 lx ly HB3 HA3 HC3 HH3 HK3 HL
    obtain ⟨x0, x1, x2, x3⟩ := nx
    obtain ⟨y0, y1, y2, y3⟩ := ny
    go_wp2_with fail
    refine JN.out.mono ?_
    rintro e w5 ⟨hj, hb5⟩
    obtain ⟨qj, cj, rfl, hasj⟩ := hj.one
    clear hj x0 x1 x2 x3 y0 y1 y2 y3 JN
    obtain ⟨JV, hJV⟩ : ∃ x, jN n m a b = x := ⟨_, rfl⟩
    obtain ⟨JL, hJL⟩ : ∃ x, jL n m a b = x := ⟨_, rfl⟩
    obtain ⟨JE, hJE⟩ : ∃ x, joinE n m a b = x := ⟨_, rfl⟩
    have QJ := hide (And.intro hJV (And.intro hJL hJE))
    rw [hJL] at hasj
    rw [hJV, hJL, hJE]
    clear hJV hJL hJE
    obtain ⟨U, hU⟩ : ∃ U, U = w5.alloc (.cells #[.int .i64 JV, .slice qj JL.length cj] 24) := ⟨_, rfl⟩
    have hbU : Below wc.heap.size wc U := by rw [hU]; exact below_step hb5 (by go_grown)
    have HN5 : Hid (NOwn U w5.heap.size JV qj JL.length cj) := by show NOwn _ _ _ _ _ _; rw [hU]; exact ⟨by go_cell, by go_cell, by go_cell, by go_cell⟩
    have HJ5 : Hid (Has U qj JL) := by show Has _ _ _; rw [hU]; exact hasj.later (by go_grown)
    have HB5 := hide (below_step HB4.out hbU)
    have HA5 := hide (HA4.out.later hbU)
    have HC5 := hide (HC4.out.later hbU)
    have HH5 := hide (HH4.out.later hbU)
    have HK5 := hide (HK4.out.later hbU)
    have HL5 := hide (HL4.out.later hbU)
    have HX5 := hide (HX4.out.later hbU)
    have HY5 := hide (HY4.out.later hbU)
    have LX5 := hide (LX4.out.later hbU)
    have LY5 := hide (LY4.out.later hbU)
    have MV := hide (moved20 n (some ⟨gx, 0, none⟩) q1 a l cx c1 U (by unfold maxLen; omega) (Or.inr ⟨gx, 0, rfl, lies_left LX5.out⟩) HL5.out)
    clear hb5 hasj hbU HB4 HA4 HC4 HH4 HK4 HL4 HX4 HY4 LX4 LY4
    go_upto_region 7 with fail
    rw [← hU]
    clear hU
    obtain ⟨x0, x1, _, _⟩ := HX5.out
    go_wp2_with fail
    refine MV.out.mono ?_
    rintro e w6 ⟨hm6, hb6⟩
    obtain ⟨qm, cm, rfl, hasm⟩ := hm6.one
    clear hm6 x0 x1 MV
    obtain ⟨MVN, hMV⟩ : ∃ x, mN n a l = x := ⟨_, rfl⟩
    obtain ⟨ML, hML⟩ : ∃ x, mL n a l = x := ⟨_, rfl⟩
    obtain ⟨ME, hME⟩ : ∃ x, movE n a l = x := ⟨_, rfl⟩
    have QM := hide (And.intro hMV (And.intro hML hME))
    rw [hML] at hasm
    rw [hMV, hML, hME]
    clear hMV hML hME
    obtain ⟨Z, hZ⟩ : ∃ Z, Z = w6.alloc (.cells #[.int .i64 MVN, .slice qm ML.length cm] 24) := ⟨_, rfl⟩
    have hbZ : Below U.heap.size U Z := by rw [hZ]; exact below_step hb6 (by go_grown)
    have HM6 : Hid (NOwn Z w6.heap.size MVN qm ML.length cm) := by show NOwn _ _ _ _ _ _; rw [hZ]; exact ⟨by go_cell, by go_cell, by go_cell, by go_cell⟩
    have HMH6 : Hid (Has Z qm ML) := by show Has _ _ _; rw [hZ]; exact hasm.later (by go_grown)
    have HB6 := hide (below_step HB5.out hbZ)
    have HA6 := hide (HA5.out.later hbZ)
    have HC6 := hide (HC5.out.later hbZ)
    have HH6 := hide (HH5.out.later hbZ)
    have HK6 := hide (HK5.out.later hbZ)
    have HL6 := hide (HL5.out.later hbZ)
    have HX6 := hide (HX5.out.later hbZ)
    have HY6 := hide (HY5.out.later hbZ)
    have LX6 := hide (LX5.out.later hbZ)
    have LY6 := hide (LY5.out.later hbZ)
    have HN6 := hide (HN5.out.later hbZ)
    have HJ6 := hide (HJ5.out.later hbZ)
    clear hb6 hasm hbZ HB5 HA5 HC5 HH5 HK5 HL5 HX5 HY5 LX5 LY5 HN5 HJ5
    go_upto_region 8 with fail
    rw [← hZ]
    clear hZ
    have CS : ∀ dd os, Calls Try.prog 21 #[nv n (some ⟨gx, 0, none⟩) a.length cx, nv m (some ⟨gy, 0, none⟩) b.length cy] (grow (redrawn Z dd) os) fun e w'' => e = .returned (.bool (sameB n m a b)) ∧ ∃ p : Regrown, w'' = grow (redrawn Z p.d) p.os := fun dd os => Calls.regrown_of (same21 n m (some ⟨gx, 0, none⟩) (some ⟨gy, 0, none⟩) a b cx cy (grow (redrawn Z dd) os) (by omega) (Or.inr ⟨gx, 0, rfl, (lies_left LX6.out).later (below_regrown Z dd os)⟩) (Or.inr ⟨gy, 0, rfl, (lies_left LY6.out).later (below_regrown Z dd os)⟩))
    have CT : ∀ dd os, Calls Try.prog 22 #[nv n p a.length cp, nv m q b.length cq] (grow (redrawn Z dd) os) fun e w'' => e = .returned (.bool (sameB n m a b)) ∧ ∃ p : Regrown, w'' = grow (redrawn Z p.d) p.os := fun dd os => Calls.regrown_of (same22 n m p q a b cp cq (grow (redrawn Z dd) os) (by omega) (HH6.out.later (below_regrown Z dd os)) (HK6.out.later (below_regrown Z dd os)))
    have CK : ∀ dd os, Calls Try.prog 17 #[nv n (some ⟨gx, 0, none⟩) a.length cx, nv n p a.length cp] (grow (redrawn Z dd) os) fun e w'' => e = .returned (.bool true) ∧ ∃ p : Regrown, w'' = grow (redrawn Z p.d) p.os := fun dd os => Calls.regrown_of (kept17 n gx cx p a cp (grow (redrawn Z dd) os) hla hcx (LX6.out.later (below_regrown Z dd os)) (HH6.out.later (below_regrown Z dd os)))
    have CL : ∀ dd os, Calls Try.prog 17 #[nv m (some ⟨gy, 0, none⟩) b.length cy, nv m q b.length cq] (grow (redrawn Z dd) os) fun e w'' => e = .returned (.bool true) ∧ ∃ p : Regrown, w'' = grow (redrawn Z p.d) p.os := fun dd os => Calls.regrown_of (kept17 m gy cy q b cq (grow (redrawn Z dd) os) hlb hcy (LY6.out.later (below_regrown Z dd os)) (HK6.out.later (below_regrown Z dd os)))
    have f0 := cell_regrown HX6.out.1
    have f1 := cell_regrown HX6.out.2.1
    have f2 := cell_regrown HY6.out.1
    have f3 := cell_regrown HY6.out.2.1
    have f4 := cell_regrown HA6.out.1
    have f5 := cell_regrown HA6.out.2.1
    have f6 := cell_regrown HC6.out.1
    have f7 := cell_regrown HC6.out.2.1
    refine wp_region_quiet_below (by kernel_rfl) (by kernel_rfl) ?_
    repeat (go_big_quiet_step (first | with_reducible exact CS _ _ | with_reducible exact CT _ _ | with_reducible exact CK _ _ | with_reducible exact CL _ _))
    refine wpQuiet_nil ?_
    intro w7 hw'
    have hb7 : Below Z.heap.size Z w7 := by
      obtain ⟨⟨dq, osq⟩, hw''⟩ := hw'
      rw [hw'']
      exact below_regrown Z dq osq
    have HB7 := hide (below_step HB6.out hb7)
    have HA7 := hide (HA6.out.later hb7)
    have HC7 := hide (HC6.out.later hb7)
    have HH7 := hide (HH6.out.later hb7)
    have HK7 := hide (HK6.out.later hb7)
    have HL7 := hide (HL6.out.later hb7)
    have HN7 := hide (HN6.out.later hb7)
    have HJ7 := hide (HJ6.out.later hb7)
    have HM7 := hide (HM6.out.later hb7)
    have HMH7 := hide (HMH6.out.later hb7)
    clear hw' hb7 f0 f1 f2 f3 f4 f5 f6 f7 CS CT CK CL HB6 HA6 HC6 HH6 HK6 HL6 HX6 HY6 LX6 LY6 HN6 HJ6 HM6 HMH6
    have MA := hide (may12 n p a cp w7 HH7.out)
    obtain ⟨q0, q1', _, _⟩ := HA7.out
    go_wp2_with fail
    refine MA.out.mono ?_
    rintro e w8 ⟨rfl, hb8⟩
    have HB8 := hide (below_step HB7.out hb8)
    have HA8 := hide (HA7.out.later hb8)
    have HC8 := hide (HC7.out.later hb8)
    have HH8 := hide (HH7.out.later hb8)
    have HK8 := hide (HK7.out.later hb8)
    have HL8 := hide (HL7.out.later hb8)
    have HN8 := hide (HN7.out.later hb8)
    have HJ8 := hide (HJ7.out.later hb8)
    have HM8 := hide (HM7.out.later hb8)
    have HMH8 := hide (HMH7.out.later hb8)
    clear hb8 MA q0 q1' HB7 HA7 HC7 HH7 HK7 HL7 HN7 HJ7 HM7 HMH7
    cases hna : netB n a
    · have eJ := joinE_no1 (m := m) (b := b) hna
      have eM := movE_no (l := l) hna
      have zJ : JV = 0 := by rw [← QJ.out.1]; unfold jN; rw [eJ]; rfl
      have zM : MVN = 0 := by rw [← QM.out.1]; unfold mN; rw [eM]; rfl
      have zE : JE = 1 := by rw [← QJ.out.2.2]; exact eJ
      have zF : ME = 1 := by rw [← QM.out.2.2]; exact eM
      clear eJ eM QJ QM
      subst zJ zM zE zF
      obtain ⟨n0, _, _, _⟩ := HN8.out
      obtain ⟨m0, _, _, _⟩ := HM8.out
      go_wp2_with fail
      go_ret
      exact ⟨rfl, HB8.out⟩
    have MV := hide (moved23 n p q1 a l cp c1 w8 hna hnp (by unfold maxLen; omega) HH8.out HL8.out)
    obtain ⟨q0, q1', _, _⟩ := HA8.out
    go_wp2_with fail
    refine MV.out.mono ?_
    rintro e w9 ⟨hm9, hb9⟩
    obtain ⟨qr, cr, rfl, hasr⟩ := hm9.one
    rw [QM.out.2.1] at hasr
    rw [QM.out.1, QM.out.2.1, QM.out.2.2]
    clear hm9 q0 q1' MV
    obtain ⟨Y, hY⟩ : ∃ Y, Y = w9.alloc (.cells #[.int .i64 MVN, .slice qr ML.length cr] 24) := ⟨_, rfl⟩
    have hbY : Below w8.heap.size w8 Y := by rw [hY]; exact below_step hb9 (by go_grown)
    have HR9 : Hid (NOwn Y w9.heap.size MVN qr ML.length cr) := by show NOwn _ _ _ _ _ _; rw [hY]; exact ⟨by go_cell, by go_cell, by go_cell, by go_cell⟩
    have HRH9 : Hid (Has Y qr ML) := by show Has _ _ _; rw [hY]; exact hasr.later (by go_grown)
    have HB9 := hide (below_step HB8.out hbY)
    have HA9 := hide (HA8.out.later hbY)
    have HC9 := hide (HC8.out.later hbY)
    have HH9 := hide (HH8.out.later hbY)
    have HK9 := hide (HK8.out.later hbY)
    have HN9 := hide (HN8.out.later hbY)
    have HJ9 := hide (HJ8.out.later hbY)
    have HM9 := hide (HM8.out.later hbY)
    have HMH9 := hide (HMH8.out.later hbY)
    clear hb9 hasr hbY HB8 HA8 HC8 HH8 HK8 HL8 HN8 HJ8 HM8 HMH8
    go_upto_region 13 with fail
    rw [← hY]
    clear hY
    have SM := hide (same22 MVN MVN qm qr ML ML cm cr Y (mL_len hla QM.out.2.1) HMH9.out HRH9.out)
    rw [sameB_self] at SM
    obtain ⟨q0, q1', _, _⟩ := HM9.out
    obtain ⟨r0, r1, _, _⟩ := HR9.out
    go_wp2_with fail
    refine SM.out.mono ?_
    rintro e w10 ⟨rfl, hb10⟩
    have HB10 := hide (below_step HB9.out hb10)
    have HA10 := hide (HA9.out.later hb10)
    have HC10 := hide (HC9.out.later hb10)
    have HH10 := hide (HH9.out.later hb10)
    have HK10 := hide (HK9.out.later hb10)
    have HN10 := hide (HN9.out.later hb10)
    have HJ10 := hide (HJ9.out.later hb10)
    clear hb10 q0 q1' r0 r1 SM HB9 HA9 HC9 HH9 HK9 HN9 HJ9 HM9 HMH9 HR9 HRH9
    have MB := hide (may12 m q b cq w10 HK10.out)
    obtain ⟨q0, q1', _, _⟩ := HC10.out
    go_wp2_with fail
    refine MB.out.mono ?_
    rintro e w11 ⟨rfl, hb11⟩
    have HB11 := hide (below_step HB10.out hb11)
    have HA11 := hide (HA10.out.later hb11)
    have HC11 := hide (HC10.out.later hb11)
    have HH11 := hide (HH10.out.later hb11)
    have HK11 := hide (HK10.out.later hb11)
    have HN11 := hide (HN10.out.later hb11)
    have HJ11 := hide (HJ10.out.later hb11)
    clear hb11 MB q0 q1' HB10 HA10 HC10 HH10 HK10 HN10 HJ10
    cases hnb : netB m b
    · have eJ := joinE_no2 (n := n) (a := a) hnb
      have zJ : JV = 0 := by rw [← QJ.out.1]; unfold jN; rw [eJ]; rfl
      have zE : JE = 1 := by rw [← QJ.out.2.2]; exact eJ
      clear eJ QJ QM
      subst zJ zE
      obtain ⟨n0, _, _, _⟩ := HN11.out
      go_wp2_with fail
      go_ret
      exact ⟨rfl, HB11.out⟩
    have JR := hide (join24 n m p q a b cp cq w11 hna hnb hnp HH11.out HK11.out)
    obtain ⟨q0, q1', _, _⟩ := HA11.out
    obtain ⟨r0, r1, _, _⟩ := HC11.out
    go_wp2_with fail
    refine JR.out.mono ?_
    rintro e w12 ⟨hj, hb12⟩
    obtain ⟨qr', cr', rfl, hasr⟩ := hj.one
    rw [QJ.out.2.1] at hasr
    rw [QJ.out.1, QJ.out.2.1, QJ.out.2.2]
    clear hj q0 q1' r0 r1 JR
    obtain ⟨X, hX⟩ : ∃ X, X = w12.alloc (.cells #[.int .i64 JV, .slice qr' JL.length cr'] 24) := ⟨_, rfl⟩
    have hbX : Below w11.heap.size w11 X := by rw [hX]; exact below_step hb12 (by go_grown)
    have HR12 : Hid (NOwn X w12.heap.size JV qr' JL.length cr') := by show NOwn _ _ _ _ _ _; rw [hX]; exact ⟨by go_cell, by go_cell, by go_cell, by go_cell⟩
    have HRH12 : Hid (Has X qr' JL) := by show Has _ _ _; rw [hX]; exact hasr.later (by go_grown)
    have HB12 := hide (below_step HB11.out hbX)
    have HN12 := hide (HN11.out.later hbX)
    have HJ12 := hide (HJ11.out.later hbX)
    clear hb12 hasr hbX HB11 HA11 HC11 HH11 HK11 HN11 HJ11
    go_upto_region 18 with fail
    rw [← hX]
    clear hX
    have SJ := hide (same22 JV JV qj qr' JL JL cj cr' X (jL_len hla hlb QJ.out.2.1) HJ12.out HRH12.out)
    rw [sameB_self] at SJ
    obtain ⟨q0, q1', _, _⟩ := HN12.out
    obtain ⟨r0, r1, _, _⟩ := HR12.out
    go_wp2_with fail
    refine SJ.out.mono ?_
    rintro e w13 ⟨rfl, hb13⟩
    go_wp2_with fail
    go_ret
    exact ⟨rfl, below_step HB12.out hb13⟩
end Go.Proofs.Ytmmbbfmkhbengaa
