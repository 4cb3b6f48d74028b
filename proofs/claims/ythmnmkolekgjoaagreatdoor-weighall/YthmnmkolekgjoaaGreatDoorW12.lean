/- Out of the listed package variables: what the cells of strconv's tables hold. -/
import Derived.Test.YthmnmkolekgjoaaGreatDoorW11
import Derived.Test.YthmnmkolekgjoaaGreatDoorRows
import Derived.Lib.LaidU8
import Derived.Deep.Slices
namespace Go.Proofs.YthmnmkolekgjoaaGreatDoor
open Go.RowKit
open Go
open Go.Lib (VarReads)
set_option maxRecDepth 100000

theorem c33 : Tryz.prog.cellsOf 33 = 1 := by kernel_rfl
theorem c153 : Tryz.prog.cellsOf 153 = 2 := by kernel_rfl
theorem c121 : Tryz.prog.cellsOf 121 = 20 := by kernel_rfl
theorem c99 : Tryz.prog.cellsOf 99 = 1 := by kernel_rfl
theorem c27 : Tryz.prog.cellsOf 27 = 1 := by kernel_rfl
theorem gTen : Tryz.prog.globalNamed "internal/strconv.uint64pow10" = some 4 := by kernel_rfl
theorem yTen : (Tryz.prog.globals[4]?).map (·.type) = some 121 := by kernel_rfl
theorem gPow : Tryz.prog.globalNamed "internal/strconv.pow10Tab" = some 8 := by kernel_rfl
theorem yPow : (Tryz.prog.globals[8]?).map (·.type) = some 154 := by kernel_rfl
theorem gOpt : Tryz.prog.globalNamed "internal/strconv.optimize" = some 1 := by kernel_rfl
theorem yOpt : (Tryz.prog.globals[1]?).map (·.type) = some 4 := by kernel_rfl
theorem gInf : Tryz.prog.globalNamed "internal/strconv.float64info" = some 7 := by kernel_rfl
theorem yInf : (Tryz.prog.globals[7]?).map (·.type) = some 133 := by kernel_rfl
theorem gF10 : Tryz.prog.globalNamed "internal/strconv.float64pow10" = some 12 := by kernel_rfl
theorem yF10 : (Tryz.prog.globals[12]?).map (·.type) = some 24 := by kernel_rfl

theorem ten_of_reads {w : World} (h : VarReads Tryz.prog w "internal/strconv.uint64pow10" Rows.laid_internal_strconv_uint64pow10) : Lib.TabIs Tryz.prog w "internal/strconv.uint64pow10" .u64 Lib.pow10Tab := by
  obtain ⟨g, t, cs, fuel, p, hg, hty, hvar, hd⟩ := h
  obtain rfl := Option.some.inj (gTen.symm.trans hg)
  obtain rfl := Option.some.inj (yTen.symm.trans hty)
  have e : (Rows.laid_internal_strconv_uint64pow10 : DataW Unit) = Lib.tabData .u64 Lib.pow10Tab := by kernel_rfl
  rw [e] at hd
  have := Lib.cells_of_tab Tryz.underlying121 Tryz.underlying33 c33 c121 hd
  unfold Lib.TabIs
  rw [hvar, ← this]

theorem pow_of_reads {w : World} (h : VarReads Tryz.prog w "internal/strconv.pow10Tab" Rows.laid_internal_strconv_pow10Tab) : PowTab w := by
  obtain ⟨g, t, cs, fuel, p, hg, hty, hvar, hd⟩ := h
  obtain rfl := Option.some.inj (gPow.symm.trans hg)
  obtain rfl := Option.some.inj (yPow.symm.trans hty)
  have e : Rows.laid_internal_strconv_pow10Tab = .agg (Pinned.pow10Rows.map fun x => .agg [.lit (.int .u64 x.1), .lit (.int .u64 x.2)]) := rfl
  rw [e] at hd
  have hlen : Pinned.pow10Rows.length = 696 := by decide +kernel
  intro i hi
  obtain ⟨fuel', d, q, hdi, hel⟩ := Lib.array_elem Tryz.underlying154 hd i hi
  rw [c153] at hel
  have hr : Pinned.pow10Rows[i]? = some (Pinned.pow10Rows[i]'(by omega)) := List.getElem?_eq_getElem (by omega)
  rw [List.getElem?_map, hr] at hdi
  have hd2 : d = .agg ([((powHi i : Nat) : Int), ((powLo i : Nat) : Int)].map fun z => .lit (.int .u64 z)) := by
    have := Option.some.inj hdi
    rw [← this]
    simp [powHi, powLo, List.getD, hr]
  rw [hd2] at hel
  have hcs := Lib.ints_of_struct Tryz.underlying153 (fun j f hf => by
    match j, hf with
    | 0, hf => simp at hf; subst hf; exact ⟨Tryz.underlying33, rfl, c33⟩
    | 1, hf => simp at hf; subst hf; exact ⟨Tryz.underlying33, rfl, c33⟩) c153 hel
  have h0 := congrArg (·[0]?) hcs
  have h1 := congrArg (·[1]?) hcs
  simp [List.getElem?_drop] at h0 h1
  rw [World.var?_cell gPow hvar, World.var?_cell gPow hvar]
  exact ⟨h0, h1⟩

theorem opt_of_reads {w : World} (h : VarReads Tryz.prog w "internal/strconv.optimize" Rows.laid_internal_strconv_optimize) : w.cell? ⟨1, 0, none⟩ = some (.bool true) := by
  obtain ⟨g, t, cs, fuel, p, hg, hty, hvar, hd⟩ := h
  obtain rfl := Option.some.inj (gOpt.symm.trans hg)
  obtain rfl := Option.some.inj (yOpt.symm.trans hty)
  obtain ⟨b, hb, hx⟩ := DataW.trod_bool Tryz.underlying4 hd
  have : b = true := by
    have := congrArg Prod.fst hx
    simp [Rows.laid_internal_strconv_optimize] at this
    exact this
  subst this
  rw [World.var?_cell gOpt hvar, ← Array.getElem?_toList, hb]; rfl

theorem inf_of_reads {w : World} (h : VarReads Tryz.prog w "internal/strconv.float64info" Rows.laid_internal_strconv_float64info) : w.cell? ⟨7, 0, none⟩ = some (.int .u64 52) := by
  obtain ⟨g, t, cs, fuel, p, hg, hty, hvar, hd⟩ := h
  obtain rfl := Option.some.inj (gInf.symm.trans hg)
  obtain rfl := Option.some.inj (yInf.symm.trans hty)
  obtain ⟨xs, n, _, hx, _, hxl, hall⟩ := DataW.trod_struct Tryz.underlying133 hd
  have h1 : DataW.trod (fun _ => ()) Tryz.prog w 0 (fun _ => true) false n 99 ((cs.toList.drop 0).take (Tryz.prog.cellsOf 99)) = xs[0]? := hall 0 _ rfl
  rw [c99] at h1
  obtain ⟨b, hb⟩ : ∃ b, xs[0]? = some b := ⟨xs[0]'(by rw [hxl]; decide), List.getElem?_eq_getElem _⟩
  rw [hb] at h1
  obtain ⟨z, hcz, hbz, _⟩ := DataW.trod_int Tryz.underlying99 h1
  have hf := congrArg Prod.fst hx
  have hz : b.1 = .lit (.int .u64 52) := by
    simp only [Rows.laid_internal_strconv_float64info, DataW.agg.injEq] at hf
    have := congrArg (·[0]?) hf
    simpa [hb] using this.symm
  rw [hbz] at hz
  simp at hz
  subst hz
  rw [World.var?_cell gInf hvar, ← Array.getElem?_toList]
  have := congrArg (·[0]?) hcz
  simpa [List.getElem?_take] using this

theorem float_of_trod {w : World} {n : Nat} {v : Value} {b : Nat} {q : List MemPlace} (h : DataW.trod (fun _ => ()) Tryz.prog w 0 (fun _ => true) false n 27 [v] = some (.lit (.float .f64 b), q)) : v = .float .f64 b := by
  cases n with
  | zero => simp [DataW.trod] at h
  | succ n =>
    unfold DataW.trod at h
    rw [Tryz.underlying27] at h
    split at h <;> simp_all

theorem f10_of_reads {w : World} (h : VarReads Tryz.prog w "internal/strconv.float64pow10" Rows.laid_internal_strconv_float64pow10) :
    ∃ b o c, w.cell? ⟨12, 0, none⟩ = some (.slice (some ⟨b, o, none⟩) 23 c) ∧ w.cell? ⟨b, o + 2, none⟩ = some (.float .f64 4636737291354636288) := by
  obtain ⟨g, t, cs, fuel, p, hg, hty, hvar, hd⟩ := h
  obtain rfl := Option.some.inj (gF10.symm.trans hg)
  obtain rfl := Option.some.inj (yF10.symm.trans hty)
  rcases Go.Deep.open_slice1 Tryz.underlying24 c27 hd with ⟨_, hx⟩ | ⟨a, len, cap, m, n, V, D, Pl, hcs, _, hlc, _, hm, hx, hall⟩
  · simp [Rows.laid_internal_strconv_float64pow10] at hx
  · have hf := congrArg Prod.fst hx
    simp only [Rows.laid_internal_strconv_float64pow10, DataW.slice.injEq] at hf
    obtain ⟨he, hr⟩ := hf
    have hl : len = 23 := by
      have := congrArg List.length he
      simpa using this.symm
    subst hl
    have hm23 : 23 ≤ m := by rw [hm]; split <;> omega
    obtain ⟨hc2, ht2⟩ := hall 2 (by omega)
    have hD2 : D 2 = .lit (.float .f64 4636737291354636288) := by
      have := congrArg (·[2]?) he
      simp [List.range_succ] at this
      exact this.symm
    rw [hD2] at ht2
    rw [float_of_trod ht2] at hc2
    obtain ⟨R, o, sR⟩ := a
    obtain rfl : sR = none := by
      have h00 := (hall 0 (by omega)).1
      have e : (Addr.add ⟨R, o, sR⟩ 0) = ⟨R, o, sR⟩ := by simp [Addr.add]
      rw [e] at h00
      exact Go.Proofs.cell_spot h00
    refine ⟨R, o, cap, ?_, ?_⟩
    · rw [World.var?_cell gF10 hvar, ← Array.getElem?_toList, hcs]; rfl
    · rwa [Addr.add_lit] at hc2

theorem vars_of_laid {w : World} {l : List (String × DataW Unit)} (hL : laidMet Tryz.prog l w)
    (h1 : ("internal/strconv.float64info", Rows.laid_internal_strconv_float64info) ∈ l) (h2 : ("internal/strconv.optimize", Rows.laid_internal_strconv_optimize) ∈ l)
    (h3 : ("internal/strconv.float64pow10", Rows.laid_internal_strconv_float64pow10) ∈ l) (h4 : ("internal/strconv.uint64pow10", Rows.laid_internal_strconv_uint64pow10) ∈ l)
    (h5 : ("internal/strconv.pow10Tab", Rows.laid_internal_strconv_pow10Tab) ∈ l) : Vars w where
  tabs := ⟨pow_of_reads (Lib.laidMet.reads hL h5), ten_of_reads (Lib.laidMet.reads hL h4)⟩
  opt := opt_of_reads (Lib.laidMet.reads hL h2)
  info := inf_of_reads (Lib.laidMet.reads hL h1)
  ten := f10_of_reads (Lib.laidMet.reads hL h3)
end Go.Proofs.YthmnmkolekgjoaaGreatDoor
