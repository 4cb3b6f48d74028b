/- A map of pairs to lists. -/
import Derived.Test.YtaebbfilgfkckaaKB6
import Derived.WideKeyEntry
import Derived.DeepKeys4
namespace Go.Proofs.Ytaebbfilgfkckaa
open Go.RowKit Go.Sort
open Go
open Go.ChangeShapes Go.WideShapes Go.MapKept Go.ChangeMaps Go.WideElems
open Go.WideMaps (KeyLaw)
abbrev nilV : Value := .slice none 0 0
theorem laidOut : laidOutB Try.prog = true := by kernel_rfl
theorem law57 : KeyLaw Try.prog 57 := deep_law_laid laidOut (m := 2) (by omega) (of_decide_eq_true (by kernel_rfl)) (by kernel_rfl) (by kernel_rfl)
def Good (p : Pt) : Prop := 0 ≤ p.x ∧ p.x ≤ 4096 ∧ 0 ≤ p.y ∧ p.y ≤ 4096
theorem key57 {p : Pt} (h : Good p) : ∃ l, keyOf Try.prog 57 (pv p.x p.y) = some l := by
  obtain ⟨x, y⟩ := p
  obtain ⟨h1, h2, h3, h4⟩ := h
  simp only at h1 h2 h3 h4
  have wx : (Lit.int .i64 x).wf = true := WalkArith.wf_i64 (by omega)
  have wy : (Lit.int .i64 y).wf = true := WalkArith.wf_i64 (by omega)
  have ks : Try.prog.keyType 57 = true := by kernel_rfl
  have c57 : Try.prog.cellsOf 57 = 2 := by kernel_rfl
  have c3 : Try.prog.cellsOf 3 = 1 := by kernel_rfl
  have e1 : Try.prog.types.size + 1 = 128 := by kernel_rfl
  unfold keyOf
  rw [Try.underlying57]
  simp only [ks, Bool.true_and]
  rw [if_pos (by simp [Value.formed, Try.underlying57, c57])]
  have k3 : ∀ z : Int, (Lit.int .i64 z).wf = true → Try.prog.keyLits 127 3 [.int .i64 z] = some [.int .i64 z] := fun z hz => by simp [Program.keyLits, Try.underlying3, hz]
  rw [e1]
  unfold Program.keyLits
  rw [Try.underlying57]
  simp only [Value.cells, c57, c3, show List.range 2 = [0, 1] from rfl]
  simp [k3 x wx, k3 y wy]
structure MapV (es : Array MapEntry) (clock : Nat) (f : Pt → Value) : Prop where
  born : ∀ x ∈ es.toList, x.born < clock
  once : (es.toList.map (·.born)).Nodup
  keys : (es.toList.map (·.key)).Nodup
  vals : ∀ x ∈ es.toList, ∃ p, Good p ∧ x.key = pv p.x p.y ∧ x.val = f p
  gone : ∀ p, Good p → (∀ x ∈ es.toList, x.key ≠ pv p.x p.y) → f p = nilV
theorem pv_inj {p q : Pt} (h : pv p.x p.y = pv q.x q.y) : p = q := by
  obtain ⟨a, b⟩ := p
  obtain ⟨c, d⟩ := q
  simp at h
  obtain ⟨rfl, rfl⟩ := h
  rfl
theorem MapV.readable {es : Array MapEntry} {clock : Nat} {f : Pt → Value} (h : MapV es clock f) : ∀ e ∈ es.toList, ∃ l, keyOf Try.prog 57 e.key = some l := fun e he => by
  obtain ⟨p, hp, e1, _⟩ := h.vals e he
  rw [e1]
  exact key57 hp
theorem MapV.at_ {es : Array MapEntry} {clock : Nat} {f : Pt → Value} (h : MapV es clock f) {e : MapEntry} (he : e ∈ es.toList) {p : Pt} (hk : e.key = pv p.x p.y) : e.val = f p := by
  obtain ⟨q, _, e1, e2⟩ := h.vals e he
  rw [hk] at e1
  rw [e2, pv_inj e1]
theorem zero25 (u : World) : (zeroValue 25).run Try.prog u = .ok nilV u := by kernel_rfl
theorem look93 {es : Array MapEntry} {clock : Nat} {f : Pt → Value} (h : MapV es clock f) {w : World} {b : Nat} (hb : w.heap[b]? = some (.map es clock)) {p : Pt} (hp : Good p) : (Instr.lookup 93 (.map (some b)) (pv p.x p.y) false).run Try.prog w = .ok (f p) w := by
  obtain ⟨l, hl⟩ := key57 hp
  rcases law57.find w hl es.toList h.readable with ⟨h1, h2⟩ | ⟨j, e0, h1, h2, h3⟩
  · rw [h.gone p hp h2]
    simp [Instr.lookup, run_underlying Try.underlying93, MapKept.run_getObj_map hb, law57.check w _ hl, h1]
  · have hm0 : e0 ∈ es.toList := List.mem_of_getElem? h2
    have hv := h.at_ hm0 h3
    simp [Instr.lookup, run_underlying Try.underlying93, MapKept.run_getObj_map hb, law57.check w _ hl, h1, hv]
def updP (f : Pt → Value) (p : Pt) (c : Value) : Pt → Value := fun q => if q = p then c else f q
/-- An entry's value is written. -/
theorem MapV.stored {es : Array MapEntry} {clock : Nat} {f : Pt → Value} (h : MapV es clock f) {j : Nat} {e0 : MapEntry} (hj : es.toList[j]? = some e0) {p : Pt} (hk : e0.key = pv p.x p.y) (c : Value) : MapV (es.modify j fun e => { e with val := c }) clock (updP f p c) := by
  have hl : (es.modify j fun e => { e with val := c }).toList = es.toList.set j { e0 with val := c } := by rw [Array.toList_modify, modify_eq_set _ _ _ _ hj]
  have hjl : j < es.toList.length := (List.getElem?_eq_some_iff.1 hj).1
  have hset : ∀ x ∈ es.toList.set j { e0 with val := c }, x = { e0 with val := c } ∨ (x ∈ es.toList ∧ x.key ≠ e0.key) := by
    intro x hx
    obtain ⟨i, hi, ei⟩ := List.getElem_of_mem hx
    rw [List.getElem_set] at ei
    by_cases hij : j = i
    · rw [if_pos hij] at ei; exact Or.inl ei.symm
    · rw [if_neg hij] at ei
      have hil : i < es.toList.length := by simpa using hi
      refine Or.inr ⟨ei ▸ List.getElem_mem hil, fun e => hij ?_⟩
      have hn := h.keys
      have h1 : (es.toList.map (·.key))[i]'(by simpa using hil) = (es.toList.map (·.key))[j]'(by simpa using hjl) := by
        rw [List.getElem_map, List.getElem_map, ei, e]
        rw [(List.getElem?_eq_some_iff.1 hj).2]
      have hn' := List.pairwise_iff_getElem.1 hn
      rcases Nat.lt_trichotomy i j with h2 | h2 | h2
      · exact absurd h1 (hn' i j (by simpa using hil) (by simpa using hjl) h2)
      · exact h2.symm
      · exact absurd h1.symm (hn' j i (by simpa using hjl) (by simpa using hil) h2)
  have hmem0 : e0 ∈ es.toList := List.mem_of_getElem? hj
  have hmap : ∀ {α : Type} (g : MapEntry → α), g { e0 with val := c } = g e0 → (es.toList.set j { e0 with val := c }).map g = es.toList.map g := by
    intro α g hg
    rw [List.map_set, hg]
    exact set_self _ _ _ (by rw [List.getElem?_map, hj]; rfl)
  refine ⟨?_, ?_, ?_, ?_, ?_⟩
  · rw [hl]
    intro x hx
    rcases hset x hx with rfl | ⟨hx, _⟩
    · exact h.born e0 hmem0
    · exact h.born x hx
  · rw [hl, hmap (·.born) rfl]; exact h.once
  · rw [hl, hmap (·.key) rfl]; exact h.keys
  · rw [hl]
    intro x hx
    rcases hset x hx with rfl | ⟨hx, hne⟩
    · obtain ⟨q, hq, e1, _⟩ := h.vals e0 hmem0
      refine ⟨q, hq, e1, ?_⟩
      rw [hk] at e1
      rw [updP, if_pos (pv_inj e1).symm]
    · obtain ⟨q, hq, e1, e2⟩ := h.vals x hx
      refine ⟨q, hq, e1, ?_⟩
      rw [updP, if_neg (fun e => hne (by rw [e1, hk, e]))]
      exact e2
  · rw [hl]
    intro q hq hno
    have hne : q ≠ p := fun e => hno { e0 with val := c } (by
      have := List.mem_set hjl (a := { e0 with val := c })
      exact this) (by rw [e]; exact hk)
    rw [updP, if_neg hne]
    refine h.gone q hq fun x hx hxk => ?_
    obtain ⟨i, hi, ei⟩ := List.getElem_of_mem hx
    by_cases hij : j = i
    · subst hij
      have : x = e0 := by rw [← ei]; exact (List.getElem?_eq_some_iff.1 hj).2
      rw [this, hk] at hxk
      exact hne (pv_inj hxk).symm
    · exact hno x (by
        rw [← ei]
        have : (es.toList.set j { e0 with val := c })[i]'(by simpa using hi) = es.toList[i] := by rw [List.getElem_set, if_neg hij]
        rw [← this]; exact List.getElem_mem _) hxk
/-- A new entry that holds nought. -/
theorem MapV.pushed {es : Array MapEntry} {clock : Nat} {f : Pt → Value} (h : MapV es clock f) {p : Pt} (hp : Good p) (hno : ∀ x ∈ es.toList, x.key ≠ pv p.x p.y) : MapV (es.push ⟨pv p.x p.y, nilV, clock⟩) (clock + 1) f := by
  have h0 := h.gone p hp hno
  refine ⟨?_, ?_, ?_, ?_, ?_⟩
  · intro x hx
    rw [Array.toList_push, List.mem_append, List.mem_singleton] at hx
    rcases hx with hx | rfl
    · have := h.born x hx; omega
    · show clock < clock + 1; omega
  · rw [Array.toList_push, List.map_append]
    refine List.nodup_append.2 ⟨h.once, by simp, fun a ha c hc e1 => ?_⟩
    simp only [List.map_cons, List.map_nil, List.mem_singleton] at hc
    obtain ⟨x, hx, rfl⟩ := List.mem_map.1 ha
    have := h.born x hx
    omega
  · rw [Array.toList_push, List.map_append]
    refine List.nodup_append.2 ⟨h.keys, by simp, fun a ha c hc e1 => ?_⟩
    simp only [List.map_cons, List.map_nil, List.mem_singleton] at hc
    obtain ⟨x, hx, rfl⟩ := List.mem_map.1 ha
    exact hno x hx (by rw [e1, hc])
  · intro x hx
    rw [Array.toList_push, List.mem_append, List.mem_singleton] at hx
    rcases hx with hx | rfl
    · exact h.vals x hx
    · exact ⟨p, hp, rfl, by rw [h0]⟩
  · intro q hq hno'
    refine h.gone q hq fun x hx => hno' x ?_
    rw [Array.toList_push, List.mem_append]
    exact Or.inl hx
theorem MapV.one {es : Array MapEntry} {clock : Nat} {f : Pt → Value} (h : MapV es clock f) {i j : Nat} {e e' : MapEntry} (hi : es.toList[i]? = some e) (hj : es.toList[j]? = some e') (hk : e.key = e'.key) : i = j := by
  have hn := List.pairwise_iff_getElem.1 h.keys
  obtain ⟨hil, ei⟩ := List.getElem?_eq_some_iff.1 hi
  obtain ⟨hjl, ej⟩ := List.getElem?_eq_some_iff.1 hj
  have h1 : (es.toList.map (·.key))[i]'(by simpa using hil) = (es.toList.map (·.key))[j]'(by simpa using hjl) := by
    rw [List.getElem_map, List.getElem_map, ei, ej, hk]
  rcases Nat.lt_trichotomy i j with h2 | h2 | h2
  · exact absurd h1 (hn i j (by simpa using hil) (by simpa using hjl) h2)
  · exact h2
  · exact absurd h1.symm (hn j i (by simpa using hjl) (by simpa using hil) h2)
/-- A new entry. -/
theorem MapV.more {es : Array MapEntry} {clock : Nat} {f : Pt → Value} (h : MapV es clock f) {p : Pt} (hp : Good p) (hno : ∀ x ∈ es.toList, x.key ≠ pv p.x p.y) (c : Value) : MapV (es.push ⟨pv p.x p.y, c, clock⟩) (clock + 1) (updP f p c) := by
  refine ⟨?_, ?_, ?_, ?_, ?_⟩
  · intro x hx
    rw [Array.toList_push, List.mem_append, List.mem_singleton] at hx
    rcases hx with hx | rfl
    · have := h.born x hx; omega
    · show clock < clock + 1; omega
  · rw [Array.toList_push, List.map_append]
    refine List.nodup_append.2 ⟨h.once, by simp, fun a ha d hc e1 => ?_⟩
    simp only [List.map_cons, List.map_nil, List.mem_singleton] at hc
    obtain ⟨x, hx, rfl⟩ := List.mem_map.1 ha
    have := h.born x hx
    omega
  · rw [Array.toList_push, List.map_append]
    refine List.nodup_append.2 ⟨h.keys, by simp, fun a ha d hc e1 => ?_⟩
    simp only [List.map_cons, List.map_nil, List.mem_singleton] at hc
    obtain ⟨x, hx, rfl⟩ := List.mem_map.1 ha
    exact hno x hx (by rw [e1, hc])
  · intro x hx
    rw [Array.toList_push, List.mem_append, List.mem_singleton] at hx
    rcases hx with hx | rfl
    · obtain ⟨q, hq, e1, e2⟩ := h.vals x hx
      refine ⟨q, hq, e1, ?_⟩
      rw [updP, if_neg (fun e => hno x hx (by rw [e1, e]))]
      exact e2
    · exact ⟨p, hp, rfl, by rw [updP, if_pos rfl]⟩
  · intro q hq hno'
    have hne : q ≠ p := fun e => hno' ⟨pv p.x p.y, c, clock⟩ (by rw [Array.toList_push, List.mem_append]; exact Or.inr (List.mem_singleton.2 rfl)) (by rw [e])
    rw [updP, if_neg hne]
    refine h.gone q hq fun x hx => hno' x ?_
    rw [Array.toList_push, List.mem_append]
    exact Or.inl hx
/-- 'm[k] = v'. -/
theorem put93 {es : Array MapEntry} {clock : Nat} {f : Pt → Value} (h : MapV es clock f) {p : Pt} (hp : Good p) (c : Value) : ∃ (es2 : Array MapEntry) (clock2 : Nat), MapV es2 clock2 (updP f p c) ∧ ∀ (w : World) (b : Nat), w.heap[b]? = some (.map es clock) → (Instr.mapUpdate 93 (.map (some b)) (pv p.x p.y) c).run Try.prog w = .ok () (setBlock w b (.map es2 clock2)) := by
  obtain ⟨l, hl⟩ := key57 hp
  by_cases hex : ∃ e ∈ es.toList, e.key = pv p.x p.y
  · obtain ⟨e0, he0, hk0⟩ := hex
    obtain ⟨j0, hj0l, ej0⟩ := List.getElem_of_mem he0
    have hj0 : es.toList[j0]? = some e0 := List.getElem?_eq_some_iff.2 ⟨hj0l, ej0⟩
    refine ⟨_, clock, h.stored hj0 hk0 c, fun w b hb => ?_⟩
    rcases law57.find w hl es.toList h.readable with ⟨_, h2⟩ | ⟨j, e1, h1, h2, h3⟩
    · exact absurd hk0 (h2 e0 he0)
    · have hjj : j = j0 := h.one h2 hj0 (by rw [h3, hk0])
      subst hjj
      rw [h2] at hj0
      obtain rfl : e1 = e0 := Option.some.inj hj0
      have hj : es[j]? = some e1 := by simpa using h2
      have hsame : es.modify j (fun e => { e with key := pv p.x p.y, val := c }) = es.modify j (fun e => { e with val := c }) := by
        apply Array.ext'
        rw [Array.toList_modify, Array.toList_modify, modify_eq_set _ _ _ _ h2, modify_eq_set _ _ _ _ h2]
        have : ({ e1 with key := pv p.x p.y, val := c } : MapEntry) = { e1 with val := c } := by rw [← h3]
        rw [this]
      simp [Instr.mapUpdate, run_underlying Try.underlying93, MapKept.run_getObj_map hb, law57.check w false hl, h1, hj, h3, law57.stays w hl, hsame, MapKept.run_setObj_map _ hb, Result.andThen, setBlock]
  · have hno : ∀ x ∈ es.toList, x.key ≠ pv p.x p.y := fun x hx e => hex ⟨x, hx, e⟩
    refine ⟨_, clock + 1, h.more hp hno c, fun w b hb => ?_⟩
    rcases law57.find w hl es.toList h.readable with ⟨h1, _⟩ | ⟨j, e1, _, h2, h3⟩
    · simp [Instr.mapUpdate, run_underlying Try.underlying93, MapKept.run_getObj_map hb, law57.check w false hl, h1, MapKept.run_setObj_map _ hb, Result.andThen, setBlock]
    · exact absurd h3 (hno e1 (List.mem_of_getElem? h2))
theorem MapV.none : MapV #[] 0 (fun _ => nilV) := ⟨by simp, by simp, by simp, by simp, fun _ _ _ => rfl⟩
end Go.Proofs.Ytaebbfilgfkckaa
