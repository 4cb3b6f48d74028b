/- A list begun elsewhere, as the law does it: in every order. -/
import Derived.Test.YtllkadgpkbaghaaY15
import Derived.Test.YtllkadgpkbaghaaY16
import Derived.Test.YtllkadgpkbaghaaRC
namespace Go.Proofs.Ytllkadgpkbaghaa
open Go.RowKit Go.Sort
open Go

set_option maxRecDepth 100000 in
set_option maxHeartbeats 16000000 in
theorem reg22 (b1 o1 an ca g v k k1 : Nat) (ap : Option Addr) (l : List Int) (old : Value) (wr : World) (u0 u2 u3 u4 u5 u6 u7 u8 u9 u10 u11 u15 u16 u17 u18 u19 u20 u21 u22 u23 u24 u25 u26 u27 u28 u29 u30 u31 u32 u33 u34 u35 u36 u37 u38 u39 u40 u41 u42 u43 u44 u45 u46 u47 u48 u49 u50 u51 u52 u53 u54 u55 u56 u57 u58 u59 u60 u61 u62 u63 u64 u65 u66 u67 u68 u69 u70 u71 u72 u73 u74 u75 u76 u77 u78 u79 u80 u81 u82 u83 u84 u85 u86 u87 u88 u89 u90 u91 u92 u93 u94 u95 u96 u97 u98 u99 u100 u101 u102 u103 u104 u105 u106 u107 u108 u109 u110 u111 u112 u113 u114 u115 u116 u117 u118 u119 u120 u121 u122 u123 u124 u125 u126 u127 u128 u129 u130 u131 u132 u133 u134 u135 u136 u137 : Value) (Q : Exit → Act → World → Prop) (hQ : ∀ c (a a' : Act) w, Q (.panic c) a' w → a'.defers = a.defers → Q (.panic c) a w)
    (hlt : v < an) (hc : wr.cell? ⟨b1, o1 + v, none⟩ = some (.slice ap l.length k1)) (hg : wr.cell? ⟨g, v, none⟩ = some old ∧ wr.frozen? ⟨g, v, none⟩ = false) (hbg : b1 ≠ g) (m : IHas wr ap l) (hk : k ≤ l.length) (hkl : 0 < l.length → k < l.length) (hcap : l.length ≤ k1) (hnil : ap = none → k1 = 0) (hl : l.length ≤ 40000)
    (hend : ∀ (V : World) (p9 : Option Addr) (l9 c9 : Nat) (x109 x110 x111 x112 x113 x114 x115 x116 x117 x118 x119 x120 x121 x122 x123 x124 x125 : Value), Below wr.heap.size wr V → IOwns V wr.heap.size (.slice p9 l9 c9) (rotL l k) → Q .normal { tmps := #[u0, .slice (some ⟨b1, o1, none⟩) an ca, u2, u3, u4, u5, u6, u7, u8, u9, u10, u11, .slice (some ⟨g, 0, none⟩) an an, .int .i64 (v : Int), .int .i64 (k : Int), u15, u16, u17, u18, u19, u20, u21, u22, u23, u24, u25, u26, u27, u28, u29, u30, u31, u32, u33, u34, u35, u36, u37, u38, u39, u40, u41, u42, u43, u44, u45, u46, u47, u48, u49, u50, u51, u52, u53, u54, u55, u56, u57, u58, u59, u60, u61, u62, u63, u64, u65, u66, u67, u68, u69, u70, u71, u72, u73, u74, u75, u76, u77, u78, u79, u80, u81, u82, u83, u84, u85, u86, u87, u88, u89, u90, u91, u92, u93, u94, u95, u96, u97, u98, u99, u100, u101, u102, u103, u104, u105, u106, u107, u108, x109, x110, x111, x112, x113, x114, x115, x116, x117, x118, x119, x120, x121, x122, x123, x124, x125, u126, u127, u128, u129, u130, u131, u132, u133, u134, u135, u136, u137], defers := [] } (V.setCell ⟨g, v, none⟩ (.slice p9 l9 c9))) :
    (Code.region 22 #[{ dst := some 109, op := Op.move (Operand.tmp 12), type := 26, pos := "law.go:140", after := #[], guard := none }, { dst := some 110, op := Op.move (Operand.tmp 13), type := 3, pos := "law.go:140", after := #[], guard := none }, { dst := some 111, op := Op.move (Operand.tmp 1), type := 26, pos := "law.go:140", after := #[], guard := none }, { dst := some 112, op := Op.move (Operand.tmp 13), type := 3, pos := "law.go:140", after := #[], guard := none }, { dst := some 113, op := Op.indexAddr 26 (Operand.tmp 111) (Operand.tmp 112), type := 0, pos := "law.go:140", after := #[{ on := 2, ground := Ground.data }, { on := 3, ground := Ground.data }], guard := none }, { dst := some 114, op := Op.load 27 (Operand.tmp 113), type := 27, pos := "law.go:140", after := #[{ on := 4, ground := Ground.data }], guard := none }, { dst := some 115, op := Op.move (Operand.tmp 14), type := 3, pos := "law.go:140", after := #[], guard := none }, { dst := some 116, op := Op.slice 27 (Operand.tmp 114) (some (Operand.tmp 115)) none none, type := 27, pos := "law.go:140", after := #[{ on := 5, ground := Ground.data }, { on := 6, ground := Ground.data }], guard := none }, { dst := some 117, op := Op.call { callee := Callee.builtin Builtin.append, args := #[Operand.const (Value.slice none 0 0), Operand.tmp 116], argTypes := #[27, 27] }, type := 27, pos := "law.go:140", after := #[{ on := 7, ground := Ground.data }], guard := none }, { dst := some 118, op := Op.move (Operand.tmp 1), type := 26, pos := "law.go:140", after := #[], guard := none }, { dst := some 119, op := Op.move (Operand.tmp 13), type := 3, pos := "law.go:140", after := #[], guard := none }, { dst := some 120, op := Op.indexAddr 26 (Operand.tmp 118) (Operand.tmp 119), type := 0, pos := "law.go:140", after := #[{ on := 9, ground := Ground.data }, { on := 10, ground := Ground.data }], guard := none }, { dst := some 121, op := Op.load 27 (Operand.tmp 120), type := 27, pos := "law.go:140", after := #[{ on := 11, ground := Ground.data }], guard := none }, { dst := some 122, op := Op.move (Operand.tmp 14), type := 3, pos := "law.go:140", after := #[], guard := none }, { dst := some 123, op := Op.slice 27 (Operand.tmp 121) none (some (Operand.tmp 122)) none, type := 27, pos := "law.go:140", after := #[{ on := 12, ground := Ground.data }, { on := 13, ground := Ground.data }], guard := none }, { dst := some 124, op := Op.call { callee := Callee.builtin Builtin.append, args := #[Operand.tmp 117, Operand.tmp 123], argTypes := #[27, 27] }, type := 27, pos := "law.go:140", after := #[{ on := 8, ground := Ground.data }, { on := 14, ground := Ground.data }, { on := 8, ground := Ground.chain }], guard := none }, { dst := some 125, op := Op.indexAddr 26 (Operand.tmp 109) (Operand.tmp 110), type := 0, pos := "law.go:140", after := #[{ on := 0, ground := Ground.data }, { on := 1, ground := Ground.data }, { on := 0, ground := Ground.phase }, { on := 1, ground := Ground.phase }, { on := 2, ground := Ground.phase }, { on := 3, ground := Ground.phase }, { on := 4, ground := Ground.phase }, { on := 5, ground := Ground.phase }, { on := 6, ground := Ground.phase }, { on := 7, ground := Ground.phase }, { on := 8, ground := Ground.phase }, { on := 9, ground := Ground.phase }, { on := 10, ground := Ground.phase }, { on := 11, ground := Ground.phase }, { on := 12, ground := Ground.phase }, { on := 13, ground := Ground.phase }, { on := 14, ground := Ground.phase }, { on := 15, ground := Ground.phase }], guard := none }, { dst := none, op := Op.store 27 (Operand.tmp 125) (Operand.tmp 124), type := 0, pos := "law.go:140", after := #[{ on := 16, ground := Ground.data }, { on := 15, ground := Ground.data }, { on := 15, ground := Ground.chain }, { on := 0, ground := Ground.phase }, { on := 1, ground := Ground.phase }, { on := 2, ground := Ground.phase }, { on := 3, ground := Ground.phase }, { on := 4, ground := Ground.phase }, { on := 5, ground := Ground.phase }, { on := 6, ground := Ground.phase }, { on := 7, ground := Ground.phase }, { on := 8, ground := Ground.phase }, { on := 9, ground := Ground.phase }, { on := 10, ground := Ground.phase }, { on := 11, ground := Ground.phase }, { on := 12, ground := Ground.phase }, { on := 13, ground := Ground.phase }, { on := 14, ground := Ground.phase }, { on := 15, ground := Ground.phase }], guard := none }] true).wp Try.prog Q { tmps := #[u0, .slice (some ⟨b1, o1, none⟩) an ca, u2, u3, u4, u5, u6, u7, u8, u9, u10, u11, .slice (some ⟨g, 0, none⟩) an an, .int .i64 (v : Int), .int .i64 (k : Int), u15, u16, u17, u18, u19, u20, u21, u22, u23, u24, u25, u26, u27, u28, u29, u30, u31, u32, u33, u34, u35, u36, u37, u38, u39, u40, u41, u42, u43, u44, u45, u46, u47, u48, u49, u50, u51, u52, u53, u54, u55, u56, u57, u58, u59, u60, u61, u62, u63, u64, u65, u66, u67, u68, u69, u70, u71, u72, u73, u74, u75, u76, u77, u78, u79, u80, u81, u82, u83, u84, u85, u86, u87, u88, u89, u90, u91, u92, u93, u94, u95, u96, u97, u98, u99, u100, u101, u102, u103, u104, u105, u106, u107, u108, u109, u110, u111, u112, u113, u114, u115, u116, u117, u118, u119, u120, u121, u122, u123, u124, u125, u126, u127, u128, u129, u130, u131, u132, u133, u134, u135, u136, u137], defers := [] } wr := by
  have iv : (v : Int) < an := by omega
  have i0 : (k : Int) ≤ l.length := by omega
  have i1 : (0 : Int) ≤ k := by omega
  have i2 : (k : Int) ≤ k1 := by omega
  have i3 : (l.length : Int) ≤ k1 := by omega
  by_cases h0 : l.length = 0
  · obtain rfl : l = [] := List.eq_nil_of_length_eq_zero h0
    obtain rfl : k = 0 := by simp at hk; exact hk
    simp only [List.length_nil] at hc
    clear m hk hkl hl i0 h0
    cases ap with
    | none =>
      obtain rfl : k1 = 0 := hnil rfl
      clear hnil hcap i2 i3
      obtain ⟨V0, hV0⟩ : ∃ V, V = wr.drew := ⟨_, rfl⟩
      have hbd : Below wr.heap.size wr V0 := by rw [hV0]; exact below_drew _
      have HC0 : Hid (V0.cell? ⟨b1, o1 + v, none⟩ = some (.slice (none) 0 0)) := later hbd hc
      have HCE : Hid (∀ V, Below V0.heap.size V0 V → V.cell? ⟨g, v, none⟩ = some old ∧ V.frozen? ⟨g, v, none⟩ = false) := fun V hV => ⟨later (below_step hbd hV) hg.1, ((below_step hbd hV).frozen (p := ⟨g, v, none⟩) (block_lt_of_cell hg.1)).trans hg.2⟩
      have HEND : Hid (∀ V, Below V0.heap.size V0 V → Below wr.heap.size wr V) := fun V hV => below_step hbd hV
      have HSZ : Hid (wr.heap.size ≤ V0.heap.size) := hbd.size
      have HIA : Hid (∀ V, Below V0.heap.size V0 V → IHas V (none) ([] : List Int)) := fun _ _ => Or.inl rfl
      have HIB : Hid (∀ V, Below V0.heap.size V0 V → IHas V (none) ([] : List Int)) := fun _ _ => Or.inl rfl
      have c0 := HC0.out
      refine wp_region_held_drew (S := (fun W' => W'.cell? ⟨b1, o1 + v, none⟩ = some (.slice (none) 0 0))) (by kernel_rfl) (by rw [← hV0]; exact c0) (fun hHeld => ?_)
      rw [← hV0] at hHeld ⊢
      clear hV0 hbd hc hg
      change wpAnyH Try.prog .any _ _ _ 18 #[false, false, false, false, false, false, false, false, false, false, false, false, false, false, false, false, false, false] _ _
      refine wpAnyH_take (i := 0) (v := ?v1) rfl (by kernel_rfl) (by kernel_rfl) (by kernel_rfl) (fun c a w h => hQ c a _ w h rfl) (Or.inl ⟨by rfl, ?hy1⟩) (by assumption) ?rest1
      case hy1 => (intro w hSw; (try dsimp only at hSw); go_simp; try with_reducible rfl)
      try simp only [Act.put, List.getElem_toArray, List.getElem_cons_zero, List.setIfInBounds_toArray, List.set_cons_zero, List.set_cons_succ]
      refine wpAnyH_take (i := 1) (v := ?v2) rfl (by kernel_rfl) (by kernel_rfl) (by kernel_rfl) (fun c a w h => hQ c a _ w h rfl) (Or.inl ⟨by rfl, ?hy2⟩) (by assumption) ?rest2
      case hy2 => (intro w hSw; (try dsimp only at hSw); go_simp; try with_reducible rfl)
      try simp only [Act.put, List.getElem_toArray, List.getElem_cons_zero, List.getElem_cons_succ, List.setIfInBounds_toArray, List.set_cons_zero, List.set_cons_succ]
      refine wpAnyH_take (i := 2) (v := ?v3) rfl (by kernel_rfl) (by kernel_rfl) (by kernel_rfl) (fun c a w h => hQ c a _ w h rfl) (Or.inl ⟨by rfl, ?hy3⟩) (by assumption) ?rest3
      case hy3 => (intro w hSw; (try dsimp only at hSw); go_simp; try with_reducible rfl)
      try simp only [Act.put, List.getElem_toArray, List.getElem_cons_zero, List.getElem_cons_succ, List.setIfInBounds_toArray, List.set_cons_zero, List.set_cons_succ]
      refine wpAnyH_take (i := 3) (v := ?v4) rfl (by kernel_rfl) (by kernel_rfl) (by kernel_rfl) (fun c a w h => hQ c a _ w h rfl) (Or.inl ⟨by rfl, ?hy4⟩) (by assumption) ?rest4
      case hy4 => (intro w hSw; (try dsimp only at hSw); go_simp; try with_reducible rfl)
      try simp only [Act.put, List.getElem_toArray, List.getElem_cons_zero, List.getElem_cons_succ, List.setIfInBounds_toArray, List.set_cons_zero, List.set_cons_succ]
      refine wpAnyH_take (i := 4) (v := ?v5) rfl (by kernel_rfl) (by kernel_rfl) (by kernel_rfl) (fun c a w h => hQ c a _ w h rfl) (Or.inl ⟨by rfl, ?hy5⟩) (by assumption) ?rest5
      case hy5 => (intro w hSw; (try dsimp only at hSw); go_simp; try with_reducible rfl)
      try simp only [Act.put, List.getElem_toArray, List.getElem_cons_zero, List.getElem_cons_succ, List.setIfInBounds_toArray, List.set_cons_zero, List.set_cons_succ]
      refine wpAnyH_take (i := 5) (v := ?v6) rfl (by kernel_rfl) (by kernel_rfl) (by kernel_rfl) (fun c a w h => hQ c a _ w h rfl) (Or.inl ⟨by rfl, ?hy6⟩) (by assumption) ?rest6
      case hy6 => (intro w hSw; (try dsimp only at hSw); go_simp; try with_reducible rfl)
      try simp only [Act.put, List.getElem_toArray, List.getElem_cons_zero, List.getElem_cons_succ, List.setIfInBounds_toArray, List.set_cons_zero, List.set_cons_succ]
      refine wpAnyH_take (i := 6) (v := ?v7) rfl (by kernel_rfl) (by kernel_rfl) (by kernel_rfl) (fun c a w h => hQ c a _ w h rfl) (Or.inl ⟨by rfl, ?hy7⟩) (by assumption) ?rest7
      case hy7 => (intro w hSw; (try dsimp only at hSw); go_simp; try with_reducible rfl)
      try simp only [Act.put, List.getElem_toArray, List.getElem_cons_zero, List.getElem_cons_succ, List.setIfInBounds_toArray, List.set_cons_zero, List.set_cons_succ]
      refine wpAnyH_take (i := 7) (v := ?v8) rfl (by kernel_rfl) (by kernel_rfl) (by kernel_rfl) (fun c a w h => hQ c a _ w h rfl) (Or.inl ⟨by rfl, ?hy8⟩) (by assumption) ?rest8
      case hy8 => (intro w hSw; (try dsimp only at hSw); go_simp; try with_reducible rfl)
      try simp only [Act.put, List.getElem_toArray, List.getElem_cons_zero, List.getElem_cons_succ, List.setIfInBounds_toArray, List.set_cons_zero, List.set_cons_succ]
      refine wpAnyH_take (i := 9) (v := ?v9) rfl (by kernel_rfl) (by kernel_rfl) (by kernel_rfl) (fun c a w h => hQ c a _ w h rfl) (Or.inl ⟨by rfl, ?hy9⟩) (by assumption) ?rest9
      case hy9 => (intro w hSw; (try dsimp only at hSw); go_simp; try with_reducible rfl)
      try simp only [Act.put, List.getElem_toArray, List.getElem_cons_zero, List.getElem_cons_succ, List.setIfInBounds_toArray, List.set_cons_zero, List.set_cons_succ]
      refine wpAnyH_take (i := 10) (v := ?v10) rfl (by kernel_rfl) (by kernel_rfl) (by kernel_rfl) (fun c a w h => hQ c a _ w h rfl) (Or.inl ⟨by rfl, ?hy10⟩) (by assumption) ?rest10
      case hy10 => (intro w hSw; (try dsimp only at hSw); go_simp; try with_reducible rfl)
      try simp only [Act.put, List.getElem_toArray, List.getElem_cons_zero, List.getElem_cons_succ, List.setIfInBounds_toArray, List.set_cons_zero, List.set_cons_succ]
      refine wpAnyH_take (i := 11) (v := ?v11) rfl (by kernel_rfl) (by kernel_rfl) (by kernel_rfl) (fun c a w h => hQ c a _ w h rfl) (Or.inl ⟨by rfl, ?hy11⟩) (by assumption) ?rest11
      case hy11 => (intro w hSw; (try dsimp only at hSw); go_simp; try with_reducible rfl)
      try simp only [Act.put, List.getElem_toArray, List.getElem_cons_zero, List.getElem_cons_succ, List.setIfInBounds_toArray, List.set_cons_zero, List.set_cons_succ]
      refine wpAnyH_take (i := 12) (v := ?v12) rfl (by kernel_rfl) (by kernel_rfl) (by kernel_rfl) (fun c a w h => hQ c a _ w h rfl) (Or.inl ⟨by rfl, ?hy12⟩) (by assumption) ?rest12
      case hy12 => (intro w hSw; (try dsimp only at hSw); go_simp; try with_reducible rfl)
      try simp only [Act.put, List.getElem_toArray, List.getElem_cons_zero, List.getElem_cons_succ, List.setIfInBounds_toArray, List.set_cons_zero, List.set_cons_succ]
      refine wpAnyH_take (i := 13) (v := ?v13) rfl (by kernel_rfl) (by kernel_rfl) (by kernel_rfl) (fun c a w h => hQ c a _ w h rfl) (Or.inl ⟨by rfl, ?hy13⟩) (by assumption) ?rest13
      case hy13 => (intro w hSw; (try dsimp only at hSw); go_simp; try with_reducible rfl)
      try simp only [Act.put, List.getElem_toArray, List.getElem_cons_zero, List.getElem_cons_succ, List.setIfInBounds_toArray, List.set_cons_zero, List.set_cons_succ]
      refine wpAnyH_take (i := 14) (v := ?v14) rfl (by kernel_rfl) (by kernel_rfl) (by kernel_rfl) (fun c a w h => hQ c a _ w h rfl) (Or.inl ⟨by rfl, ?hy14⟩) (by assumption) ?rest14
      case hy14 => (intro w hSw; (try dsimp only at hSw); go_simp; try with_reducible rfl)
      try simp only [Act.put, List.getElem_toArray, List.getElem_cons_zero, List.getElem_cons_succ, List.setIfInBounds_toArray, List.set_cons_zero, List.set_cons_succ]
      refine wpAnyH_ready (rs := [8]) (by kernel_rfl) (by simp) ?_
      refine ready_cons ({ dst := some 117, op := Op.call { callee := Callee.builtin Builtin.append, args := #[Operand.const (Value.slice none 0 0), Operand.tmp 116], argTypes := #[27, 27] }, type := 27, pos := "law.go:140", after := #[{ on := 7, ground := Ground.data }], guard := none }) rfl rfl (fun K hK => ?_) ?_
      · clear hHeld c0
        obtain ⟨v1, V1, e1, o7, g7⟩ := append_ints (IOwns.nil V0 V0.heap.size) (none) (0) (([] : List Int)) (fun _ => rfl) (HIA.out V0 (Below.refl _ _)) (Nat.le_refl _) (by first | (simp; done) | (simp; omega))
        rw [List.nil_append] at o7
        have HB7 : Hid (Below V0.heap.size V0 V1) := below_grown (Below.refl _ _) (IOwns.nil V0 V0.heap.size) (Nat.le_refl _) (Nat.le_refl _) g7
        rw [List.length_nil] at e1
        have c0 := later HB7.out HC0.out
        refine oper_append (.const (.slice none 0 0)) (.tmp 116) 27 rfl 27 rfl (.slice none 0 0) (.slice (none) 0 0) v1 V1 (by rfl) (by rfl) ?_ ?_
        with_reducible exact e1
        clear e1 g7
        have HO7 := hide o7
        clear o7
        refine hK.out _ _ (by first | with_reducible exact c0 | exact cell_other c0 hbg) (fun hHeld => ?_)
        clear hK K
        try simp only [Act.put, List.setIfInBounds_toArray, List.set_cons_zero, List.set_cons_succ]
        refine wpAnyH_ready (rs := [15]) (by kernel_rfl) (by simp) ?_
        refine ready_cons ({ dst := some 124, op := Op.call { callee := Callee.builtin Builtin.append, args := #[Operand.tmp 117, Operand.tmp 123], argTypes := #[27, 27] }, type := 27, pos := "law.go:140", after := #[{ on := 8, ground := Ground.data }, { on := 14, ground := Ground.data }, { on := 8, ground := Ground.chain }], guard := none }) rfl rfl (fun K hK => ?_) ?_
        · clear hHeld c0
          obtain ⟨v2, V2, e2, o8, g8⟩ := append_ints HO7.out (none) (0) (([] : List Int)) (fun _ => rfl) (HIB.out V1 HB7.out) HB7.out.size (by first | (simp; done) | (rw [List.length_nil, List.length_nil]; omega))
          have HB8 : Hid (Below V0.heap.size V0 V2) := below_grown HB7.out HO7.out (Nat.le_refl _) HB7.out.size g8
          rw [List.length_nil] at e2
          have c0 := later HB8.out HC0.out
          obtain ⟨p9, l9, c9, rfl⟩ : ∃ p9 l9 c9, v2 = .slice p9 l9 c9 := by obtain ⟨p9, c9, h9, _⟩ := o8.form; exact ⟨_, _, _, h9⟩
          refine oper_append (.tmp 117) (.tmp 123) 27 rfl 27 rfl v1 (.slice (none) 0 0) (.slice p9 l9 c9) V2 (by rfl) (by rfl) ?_ ?_
          with_reducible exact e2
          clear e2 g8
          have HO8 := hide o8
          clear o8
          refine hK.out _ _ (by first | with_reducible exact c0 | exact cell_other c0 hbg) (fun hHeld => ?_)
          clear hK K
          try simp only [Act.put, List.setIfInBounds_toArray, List.set_cons_zero, List.set_cons_succ]
          refine wpAnyH_take (i := 16) (v := ?v15) rfl (by kernel_rfl) (by kernel_rfl) (by kernel_rfl) (fun c a w h => hQ c a _ w h rfl) (Or.inl ⟨by rfl, ?hy15⟩) (by assumption) ?rest15
          case hy15 => (intro w hSw; (try dsimp only at hSw); go_simp; try with_reducible rfl)
          try simp only [Act.put, List.getElem_toArray, List.getElem_cons_zero, List.getElem_cons_succ, List.setIfInBounds_toArray, List.set_cons_zero, List.set_cons_succ]
          refine wpAnyH_ready (rs := [17]) (by kernel_rfl) (by simp) ?_
          refine AllReadyH.cons rfl (fun K hK => ?_) ?_
          · clear hHeld
            obtain ⟨d0, f0⟩ := HCE.out V2 HB8.out
            go_simp
            clear d0 f0
            refine hK.out _ _ (by first | with_reducible exact c0 | exact cell_other c0 hbg) (fun hHeld => ?_)
            clear hK K
            try simp only [List.setIfInBounds_toArray, List.set_cons_zero, List.set_cons_succ]
            refine wpAnyH_done (by kernel_rfl) ?_ _
            clear hHeld
            exact hend V2 p9 l9 c9 _ _ _ _ _ _ _ _ _ _ _ _ _ _ _ _ _ (HEND.out V2 HB8.out) (by have := IOwns.base HO8.out HSZ.out; exact this)
          exact AllReadyH.nil
        exact AllReadyH.nil
      exact AllReadyH.nil
    | some ad =>
      obtain ⟨b, off, spot⟩ := ad
      clear hnil hcap
      obtain ⟨V0, hV0⟩ : ∃ V, V = wr.drew := ⟨_, rfl⟩
      have hbd : Below wr.heap.size wr V0 := by rw [hV0]; exact below_drew _
      have HC0 : Hid (V0.cell? ⟨b1, o1 + v, none⟩ = some (.slice (some ⟨b, off, spot⟩) 0 k1)) := later hbd hc
      have HCE : Hid (∀ V, Below V0.heap.size V0 V → V.cell? ⟨g, v, none⟩ = some old ∧ V.frozen? ⟨g, v, none⟩ = false) := fun V hV => ⟨later (below_step hbd hV) hg.1, ((below_step hbd hV).frozen (p := ⟨g, v, none⟩) (block_lt_of_cell hg.1)).trans hg.2⟩
      have HEND : Hid (∀ V, Below V0.heap.size V0 V → Below wr.heap.size wr V) := fun V hV => below_step hbd hV
      have HSZ : Hid (wr.heap.size ≤ V0.heap.size) := hbd.size
      have HIA : Hid (∀ V, Below V0.heap.size V0 V → IHas V (some ⟨b, off, spot⟩) ([] : List Int)) := fun _ _ => Or.inl rfl
      have HIB : Hid (∀ V, Below V0.heap.size V0 V → IHas V (some ⟨b, off, spot⟩) ([] : List Int)) := fun _ _ => Or.inl rfl
      have c0 := HC0.out
      refine wp_region_held_drew (S := (fun W' => W'.cell? ⟨b1, o1 + v, none⟩ = some (.slice (some ⟨b, off, spot⟩) 0 k1))) (by kernel_rfl) (by rw [← hV0]; exact c0) (fun hHeld => ?_)
      rw [← hV0] at hHeld ⊢
      clear hV0 hbd hc hg
      change wpAnyH Try.prog .any _ _ _ 18 #[false, false, false, false, false, false, false, false, false, false, false, false, false, false, false, false, false, false] _ _
      refine wpAnyH_take (i := 0) (v := ?v16) rfl (by kernel_rfl) (by kernel_rfl) (by kernel_rfl) (fun c a w h => hQ c a _ w h rfl) (Or.inl ⟨by rfl, ?hy16⟩) (by assumption) ?rest16
      case hy16 => (intro w hSw; (try dsimp only at hSw); go_simp; try with_reducible rfl)
      try simp only [Act.put, List.getElem_toArray, List.getElem_cons_zero, List.setIfInBounds_toArray, List.set_cons_zero, List.set_cons_succ]
      refine wpAnyH_take (i := 1) (v := ?v17) rfl (by kernel_rfl) (by kernel_rfl) (by kernel_rfl) (fun c a w h => hQ c a _ w h rfl) (Or.inl ⟨by rfl, ?hy17⟩) (by assumption) ?rest17
      case hy17 => (intro w hSw; (try dsimp only at hSw); go_simp; try with_reducible rfl)
      try simp only [Act.put, List.getElem_toArray, List.getElem_cons_zero, List.getElem_cons_succ, List.setIfInBounds_toArray, List.set_cons_zero, List.set_cons_succ]
      refine wpAnyH_take (i := 2) (v := ?v18) rfl (by kernel_rfl) (by kernel_rfl) (by kernel_rfl) (fun c a w h => hQ c a _ w h rfl) (Or.inl ⟨by rfl, ?hy18⟩) (by assumption) ?rest18
      case hy18 => (intro w hSw; (try dsimp only at hSw); go_simp; try with_reducible rfl)
      try simp only [Act.put, List.getElem_toArray, List.getElem_cons_zero, List.getElem_cons_succ, List.setIfInBounds_toArray, List.set_cons_zero, List.set_cons_succ]
      refine wpAnyH_take (i := 3) (v := ?v19) rfl (by kernel_rfl) (by kernel_rfl) (by kernel_rfl) (fun c a w h => hQ c a _ w h rfl) (Or.inl ⟨by rfl, ?hy19⟩) (by assumption) ?rest19
      case hy19 => (intro w hSw; (try dsimp only at hSw); go_simp; try with_reducible rfl)
      try simp only [Act.put, List.getElem_toArray, List.getElem_cons_zero, List.getElem_cons_succ, List.setIfInBounds_toArray, List.set_cons_zero, List.set_cons_succ]
      refine wpAnyH_take (i := 4) (v := ?v20) rfl (by kernel_rfl) (by kernel_rfl) (by kernel_rfl) (fun c a w h => hQ c a _ w h rfl) (Or.inl ⟨by rfl, ?hy20⟩) (by assumption) ?rest20
      case hy20 => (intro w hSw; (try dsimp only at hSw); go_simp; try with_reducible rfl)
      try simp only [Act.put, List.getElem_toArray, List.getElem_cons_zero, List.getElem_cons_succ, List.setIfInBounds_toArray, List.set_cons_zero, List.set_cons_succ]
      refine wpAnyH_take (i := 5) (v := ?v21) rfl (by kernel_rfl) (by kernel_rfl) (by kernel_rfl) (fun c a w h => hQ c a _ w h rfl) (Or.inl ⟨by rfl, ?hy21⟩) (by assumption) ?rest21
      case hy21 => (intro w hSw; (try dsimp only at hSw); go_simp; try with_reducible rfl)
      try simp only [Act.put, List.getElem_toArray, List.getElem_cons_zero, List.getElem_cons_succ, List.setIfInBounds_toArray, List.set_cons_zero, List.set_cons_succ]
      refine wpAnyH_take (i := 6) (v := ?v22) rfl (by kernel_rfl) (by kernel_rfl) (by kernel_rfl) (fun c a w h => hQ c a _ w h rfl) (Or.inl ⟨by rfl, ?hy22⟩) (by assumption) ?rest22
      case hy22 => (intro w hSw; (try dsimp only at hSw); go_simp; try with_reducible rfl)
      try simp only [Act.put, List.getElem_toArray, List.getElem_cons_zero, List.getElem_cons_succ, List.setIfInBounds_toArray, List.set_cons_zero, List.set_cons_succ]
      refine wpAnyH_take (i := 7) (v := ?v23) rfl (by kernel_rfl) (by kernel_rfl) (by kernel_rfl) (fun c a w h => hQ c a _ w h rfl) (Or.inl ⟨by rfl, ?hy23⟩) (by assumption) ?rest23
      case hy23 => (intro w hSw; (try dsimp only at hSw); go_simp; try with_reducible rfl)
      try simp only [Act.put, List.getElem_toArray, List.getElem_cons_zero, List.getElem_cons_succ, List.setIfInBounds_toArray, List.set_cons_zero, List.set_cons_succ]
      refine wpAnyH_take (i := 9) (v := ?v24) rfl (by kernel_rfl) (by kernel_rfl) (by kernel_rfl) (fun c a w h => hQ c a _ w h rfl) (Or.inl ⟨by rfl, ?hy24⟩) (by assumption) ?rest24
      case hy24 => (intro w hSw; (try dsimp only at hSw); go_simp; try with_reducible rfl)
      try simp only [Act.put, List.getElem_toArray, List.getElem_cons_zero, List.getElem_cons_succ, List.setIfInBounds_toArray, List.set_cons_zero, List.set_cons_succ]
      refine wpAnyH_take (i := 10) (v := ?v25) rfl (by kernel_rfl) (by kernel_rfl) (by kernel_rfl) (fun c a w h => hQ c a _ w h rfl) (Or.inl ⟨by rfl, ?hy25⟩) (by assumption) ?rest25
      case hy25 => (intro w hSw; (try dsimp only at hSw); go_simp; try with_reducible rfl)
      try simp only [Act.put, List.getElem_toArray, List.getElem_cons_zero, List.getElem_cons_succ, List.setIfInBounds_toArray, List.set_cons_zero, List.set_cons_succ]
      refine wpAnyH_take (i := 11) (v := ?v26) rfl (by kernel_rfl) (by kernel_rfl) (by kernel_rfl) (fun c a w h => hQ c a _ w h rfl) (Or.inl ⟨by rfl, ?hy26⟩) (by assumption) ?rest26
      case hy26 => (intro w hSw; (try dsimp only at hSw); go_simp; try with_reducible rfl)
      try simp only [Act.put, List.getElem_toArray, List.getElem_cons_zero, List.getElem_cons_succ, List.setIfInBounds_toArray, List.set_cons_zero, List.set_cons_succ]
      refine wpAnyH_take (i := 12) (v := ?v27) rfl (by kernel_rfl) (by kernel_rfl) (by kernel_rfl) (fun c a w h => hQ c a _ w h rfl) (Or.inl ⟨by rfl, ?hy27⟩) (by assumption) ?rest27
      case hy27 => (intro w hSw; (try dsimp only at hSw); go_simp; try with_reducible rfl)
      try simp only [Act.put, List.getElem_toArray, List.getElem_cons_zero, List.getElem_cons_succ, List.setIfInBounds_toArray, List.set_cons_zero, List.set_cons_succ]
      refine wpAnyH_take (i := 13) (v := ?v28) rfl (by kernel_rfl) (by kernel_rfl) (by kernel_rfl) (fun c a w h => hQ c a _ w h rfl) (Or.inl ⟨by rfl, ?hy28⟩) (by assumption) ?rest28
      case hy28 => (intro w hSw; (try dsimp only at hSw); go_simp; try with_reducible rfl)
      try simp only [Act.put, List.getElem_toArray, List.getElem_cons_zero, List.getElem_cons_succ, List.setIfInBounds_toArray, List.set_cons_zero, List.set_cons_succ]
      refine wpAnyH_take (i := 14) (v := ?v29) rfl (by kernel_rfl) (by kernel_rfl) (by kernel_rfl) (fun c a w h => hQ c a _ w h rfl) (Or.inl ⟨by rfl, ?hy29⟩) (by assumption) ?rest29
      case hy29 => (intro w hSw; (try dsimp only at hSw); go_simp; try with_reducible rfl)
      try simp only [Act.put, List.getElem_toArray, List.getElem_cons_zero, List.getElem_cons_succ, List.setIfInBounds_toArray, List.set_cons_zero, List.set_cons_succ]
      refine wpAnyH_ready (rs := [8]) (by kernel_rfl) (by simp) ?_
      refine ready_cons ({ dst := some 117, op := Op.call { callee := Callee.builtin Builtin.append, args := #[Operand.const (Value.slice none 0 0), Operand.tmp 116], argTypes := #[27, 27] }, type := 27, pos := "law.go:140", after := #[{ on := 7, ground := Ground.data }], guard := none }) rfl rfl (fun K hK => ?_) ?_
      · clear hHeld c0
        obtain ⟨v1, V1, e1, o7, g7⟩ := append_ints (IOwns.nil V0 V0.heap.size) (some ⟨b, off, spot⟩) (k1) (([] : List Int)) (fun h => by cases h) (HIA.out V0 (Below.refl _ _)) (Nat.le_refl _) (by first | (simp; done) | (simp; omega))
        rw [List.nil_append] at o7
        have HB7 : Hid (Below V0.heap.size V0 V1) := below_grown (Below.refl _ _) (IOwns.nil V0 V0.heap.size) (Nat.le_refl _) (Nat.le_refl _) g7
        rw [List.length_nil] at e1
        have c0 := later HB7.out HC0.out
        refine oper_append (.const (.slice none 0 0)) (.tmp 116) 27 rfl 27 rfl (.slice none 0 0) (.slice (some ⟨b, off, spot⟩) 0 k1) v1 V1 (by rfl) (by rfl) ?_ ?_
        with_reducible exact e1
        clear e1 g7
        have HO7 := hide o7
        clear o7
        refine hK.out _ _ (by first | with_reducible exact c0 | exact cell_other c0 hbg) (fun hHeld => ?_)
        clear hK K
        try simp only [Act.put, List.setIfInBounds_toArray, List.set_cons_zero, List.set_cons_succ]
        refine wpAnyH_ready (rs := [15]) (by kernel_rfl) (by simp) ?_
        refine ready_cons ({ dst := some 124, op := Op.call { callee := Callee.builtin Builtin.append, args := #[Operand.tmp 117, Operand.tmp 123], argTypes := #[27, 27] }, type := 27, pos := "law.go:140", after := #[{ on := 8, ground := Ground.data }, { on := 14, ground := Ground.data }, { on := 8, ground := Ground.chain }], guard := none }) rfl rfl (fun K hK => ?_) ?_
        · clear hHeld c0
          obtain ⟨v2, V2, e2, o8, g8⟩ := append_ints HO7.out (some ⟨b, off, spot⟩) (k1) (([] : List Int)) (fun h => by cases h) (HIB.out V1 HB7.out) HB7.out.size (by first | (simp; done) | (rw [List.length_nil, List.length_nil]; omega))
          have HB8 : Hid (Below V0.heap.size V0 V2) := below_grown HB7.out HO7.out (Nat.le_refl _) HB7.out.size g8
          rw [List.length_nil] at e2
          have c0 := later HB8.out HC0.out
          obtain ⟨p9, l9, c9, rfl⟩ : ∃ p9 l9 c9, v2 = .slice p9 l9 c9 := by obtain ⟨p9, c9, h9, _⟩ := o8.form; exact ⟨_, _, _, h9⟩
          refine oper_append (.tmp 117) (.tmp 123) 27 rfl 27 rfl v1 (.slice (some ⟨b, off, spot⟩) 0 k1) (.slice p9 l9 c9) V2 (by rfl) (by rfl) ?_ ?_
          with_reducible exact e2
          clear e2 g8
          have HO8 := hide o8
          clear o8
          refine hK.out _ _ (by first | with_reducible exact c0 | exact cell_other c0 hbg) (fun hHeld => ?_)
          clear hK K
          try simp only [Act.put, List.setIfInBounds_toArray, List.set_cons_zero, List.set_cons_succ]
          refine wpAnyH_take (i := 16) (v := ?v30) rfl (by kernel_rfl) (by kernel_rfl) (by kernel_rfl) (fun c a w h => hQ c a _ w h rfl) (Or.inl ⟨by rfl, ?hy30⟩) (by assumption) ?rest30
          case hy30 => (intro w hSw; (try dsimp only at hSw); go_simp; try with_reducible rfl)
          try simp only [Act.put, List.getElem_toArray, List.getElem_cons_zero, List.getElem_cons_succ, List.setIfInBounds_toArray, List.set_cons_zero, List.set_cons_succ]
          refine wpAnyH_ready (rs := [17]) (by kernel_rfl) (by simp) ?_
          refine AllReadyH.cons rfl (fun K hK => ?_) ?_
          · clear hHeld
            obtain ⟨d0, f0⟩ := HCE.out V2 HB8.out
            go_simp
            clear d0 f0
            refine hK.out _ _ (by first | with_reducible exact c0 | exact cell_other c0 hbg) (fun hHeld => ?_)
            clear hK K
            try simp only [List.setIfInBounds_toArray, List.set_cons_zero, List.set_cons_succ]
            refine wpAnyH_done (by kernel_rfl) ?_ _
            clear hHeld
            exact hend V2 p9 l9 c9 _ _ _ _ _ _ _ _ _ _ _ _ _ _ _ _ _ (HEND.out V2 HB8.out) (by have := IOwns.base HO8.out HSZ.out; exact this)
          exact AllReadyH.nil
        exact AllReadyH.nil
      exact AllReadyH.nil
  · rcases m with h | ⟨b, off, rfl, hL⟩
    · rw [h] at h0; simp at h0
    have hlt2 := hkl (by omega)
    have hka : ¬ k1 = k := by omega
    have hkk : k ≤ k1 := by omega
    have HLA : Hid ((l.drop k).length = l.length - k) := List.length_drop
    have HLB : Hid ((l.take k).length = k) := by show _ = _; rw [List.length_take]; omega
    clear hnil h0 hkl
    obtain ⟨V0, hV0⟩ : ∃ V, V = wr.drew := ⟨_, rfl⟩
    have hbd : Below wr.heap.size wr V0 := by rw [hV0]; exact below_drew _
    have HC0 : Hid (V0.cell? ⟨b1, o1 + v, none⟩ = some (.slice (some ⟨b, off, none⟩) l.length k1)) := later hbd hc
    have HCE : Hid (∀ V, Below V0.heap.size V0 V → V.cell? ⟨g, v, none⟩ = some old ∧ V.frozen? ⟨g, v, none⟩ = false) := fun V hV => ⟨later (below_step hbd hV) hg.1, ((below_step hbd hV).frozen (p := ⟨g, v, none⟩) (block_lt_of_cell hg.1)).trans hg.2⟩
    have HEND : Hid (∀ V, Below V0.heap.size V0 V → Below wr.heap.size wr V) := fun V hV => below_step hbd hV
    have HSZ : Hid (wr.heap.size ≤ V0.heap.size) := hbd.size
    have HIA : Hid (∀ V, Below V0.heap.size V0 V → IHas V (some ⟨b, off + k, none⟩) (l.drop k)) := fun V hV => ihas_drop (hL.later (below_step hbd hV))
    have HIB : Hid (∀ V, Below V0.heap.size V0 V → IHas V (some ⟨b, off, none⟩) (l.take k)) := fun V hV => ihas_take (hL.later (below_step hbd hV))
    clear hL
    have c0 := HC0.out
    refine wp_region_held_drew (S := (fun W' => W'.cell? ⟨b1, o1 + v, none⟩ = some (.slice (some ⟨b, off, none⟩) l.length k1))) (by kernel_rfl) (by rw [← hV0]; exact c0) (fun hHeld => ?_)
    rw [← hV0] at hHeld ⊢
    clear hV0 hbd hc hg
    change wpAnyH Try.prog .any _ _ _ 18 #[false, false, false, false, false, false, false, false, false, false, false, false, false, false, false, false, false, false] _ _
    refine wpAnyH_take (i := 0) (v := ?v31) rfl (by kernel_rfl) (by kernel_rfl) (by kernel_rfl) (fun c a w h => hQ c a _ w h rfl) (Or.inl ⟨by rfl, ?hy31⟩) (by assumption) ?rest31
    case hy31 => (intro w hSw; (try dsimp only at hSw); go_simp; try with_reducible rfl)
    try simp only [Act.put, List.getElem_toArray, List.getElem_cons_zero, List.setIfInBounds_toArray, List.set_cons_zero, List.set_cons_succ]
    refine wpAnyH_take (i := 1) (v := ?v32) rfl (by kernel_rfl) (by kernel_rfl) (by kernel_rfl) (fun c a w h => hQ c a _ w h rfl) (Or.inl ⟨by rfl, ?hy32⟩) (by assumption) ?rest32
    case hy32 => (intro w hSw; (try dsimp only at hSw); go_simp; try with_reducible rfl)
    try simp only [Act.put, List.getElem_toArray, List.getElem_cons_zero, List.getElem_cons_succ, List.setIfInBounds_toArray, List.set_cons_zero, List.set_cons_succ]
    refine wpAnyH_take (i := 2) (v := ?v33) rfl (by kernel_rfl) (by kernel_rfl) (by kernel_rfl) (fun c a w h => hQ c a _ w h rfl) (Or.inl ⟨by rfl, ?hy33⟩) (by assumption) ?rest33
    case hy33 => (intro w hSw; (try dsimp only at hSw); go_simp; try with_reducible rfl)
    try simp only [Act.put, List.getElem_toArray, List.getElem_cons_zero, List.getElem_cons_succ, List.setIfInBounds_toArray, List.set_cons_zero, List.set_cons_succ]
    refine wpAnyH_take (i := 3) (v := ?v34) rfl (by kernel_rfl) (by kernel_rfl) (by kernel_rfl) (fun c a w h => hQ c a _ w h rfl) (Or.inl ⟨by rfl, ?hy34⟩) (by assumption) ?rest34
    case hy34 => (intro w hSw; (try dsimp only at hSw); go_simp; try with_reducible rfl)
    try simp only [Act.put, List.getElem_toArray, List.getElem_cons_zero, List.getElem_cons_succ, List.setIfInBounds_toArray, List.set_cons_zero, List.set_cons_succ]
    refine wpAnyH_take (i := 4) (v := ?v35) rfl (by kernel_rfl) (by kernel_rfl) (by kernel_rfl) (fun c a w h => hQ c a _ w h rfl) (Or.inl ⟨by rfl, ?hy35⟩) (by assumption) ?rest35
    case hy35 => (intro w hSw; (try dsimp only at hSw); go_simp; try with_reducible rfl)
    try simp only [Act.put, List.getElem_toArray, List.getElem_cons_zero, List.getElem_cons_succ, List.setIfInBounds_toArray, List.set_cons_zero, List.set_cons_succ]
    refine wpAnyH_take (i := 5) (v := ?v36) rfl (by kernel_rfl) (by kernel_rfl) (by kernel_rfl) (fun c a w h => hQ c a _ w h rfl) (Or.inl ⟨by rfl, ?hy36⟩) (by assumption) ?rest36
    case hy36 => (intro w hSw; (try dsimp only at hSw); go_simp; try with_reducible rfl)
    try simp only [Act.put, List.getElem_toArray, List.getElem_cons_zero, List.getElem_cons_succ, List.setIfInBounds_toArray, List.set_cons_zero, List.set_cons_succ]
    refine wpAnyH_take (i := 6) (v := ?v37) rfl (by kernel_rfl) (by kernel_rfl) (by kernel_rfl) (fun c a w h => hQ c a _ w h rfl) (Or.inl ⟨by rfl, ?hy37⟩) (by assumption) ?rest37
    case hy37 => (intro w hSw; (try dsimp only at hSw); go_simp; try with_reducible rfl)
    try simp only [Act.put, List.getElem_toArray, List.getElem_cons_zero, List.getElem_cons_succ, List.setIfInBounds_toArray, List.set_cons_zero, List.set_cons_succ]
    refine wpAnyH_take (i := 7) (v := ?v38) rfl (by kernel_rfl) (by kernel_rfl) (by kernel_rfl) (fun c a w h => hQ c a _ w h rfl) (Or.inl ⟨by rfl, ?hy38⟩) (by assumption) ?rest38
    case hy38 => (intro w hSw; (try dsimp only at hSw); go_simp; try with_reducible rfl)
    try simp only [Act.put, List.getElem_toArray, List.getElem_cons_zero, List.getElem_cons_succ, List.setIfInBounds_toArray, List.set_cons_zero, List.set_cons_succ]
    refine wpAnyH_take (i := 9) (v := ?v39) rfl (by kernel_rfl) (by kernel_rfl) (by kernel_rfl) (fun c a w h => hQ c a _ w h rfl) (Or.inl ⟨by rfl, ?hy39⟩) (by assumption) ?rest39
    case hy39 => (intro w hSw; (try dsimp only at hSw); go_simp; try with_reducible rfl)
    try simp only [Act.put, List.getElem_toArray, List.getElem_cons_zero, List.getElem_cons_succ, List.setIfInBounds_toArray, List.set_cons_zero, List.set_cons_succ]
    refine wpAnyH_take (i := 10) (v := ?v40) rfl (by kernel_rfl) (by kernel_rfl) (by kernel_rfl) (fun c a w h => hQ c a _ w h rfl) (Or.inl ⟨by rfl, ?hy40⟩) (by assumption) ?rest40
    case hy40 => (intro w hSw; (try dsimp only at hSw); go_simp; try with_reducible rfl)
    try simp only [Act.put, List.getElem_toArray, List.getElem_cons_zero, List.getElem_cons_succ, List.setIfInBounds_toArray, List.set_cons_zero, List.set_cons_succ]
    refine wpAnyH_take (i := 11) (v := ?v41) rfl (by kernel_rfl) (by kernel_rfl) (by kernel_rfl) (fun c a w h => hQ c a _ w h rfl) (Or.inl ⟨by rfl, ?hy41⟩) (by assumption) ?rest41
    case hy41 => (intro w hSw; (try dsimp only at hSw); go_simp; try with_reducible rfl)
    try simp only [Act.put, List.getElem_toArray, List.getElem_cons_zero, List.getElem_cons_succ, List.setIfInBounds_toArray, List.set_cons_zero, List.set_cons_succ]
    refine wpAnyH_take (i := 12) (v := ?v42) rfl (by kernel_rfl) (by kernel_rfl) (by kernel_rfl) (fun c a w h => hQ c a _ w h rfl) (Or.inl ⟨by rfl, ?hy42⟩) (by assumption) ?rest42
    case hy42 => (intro w hSw; (try dsimp only at hSw); go_simp; try with_reducible rfl)
    try simp only [Act.put, List.getElem_toArray, List.getElem_cons_zero, List.getElem_cons_succ, List.setIfInBounds_toArray, List.set_cons_zero, List.set_cons_succ]
    refine wpAnyH_take (i := 13) (v := ?v43) rfl (by kernel_rfl) (by kernel_rfl) (by kernel_rfl) (fun c a w h => hQ c a _ w h rfl) (Or.inl ⟨by rfl, ?hy43⟩) (by assumption) ?rest43
    case hy43 => (intro w hSw; (try dsimp only at hSw); go_simp; try with_reducible rfl)
    try simp only [Act.put, List.getElem_toArray, List.getElem_cons_zero, List.getElem_cons_succ, List.setIfInBounds_toArray, List.set_cons_zero, List.set_cons_succ]
    refine wpAnyH_take (i := 14) (v := ?v44) rfl (by kernel_rfl) (by kernel_rfl) (by kernel_rfl) (fun c a w h => hQ c a _ w h rfl) (Or.inl ⟨by rfl, ?hy44⟩) (by assumption) ?rest44
    case hy44 => (intro w hSw; (try dsimp only at hSw); go_simp; try with_reducible rfl)
    try simp only [Act.put, List.getElem_toArray, List.getElem_cons_zero, List.getElem_cons_succ, List.setIfInBounds_toArray, List.set_cons_zero, List.set_cons_succ]
    refine wpAnyH_ready (rs := [8]) (by kernel_rfl) (by simp) ?_
    refine ready_cons ({ dst := some 117, op := Op.call { callee := Callee.builtin Builtin.append, args := #[Operand.const (Value.slice none 0 0), Operand.tmp 116], argTypes := #[27, 27] }, type := 27, pos := "law.go:140", after := #[{ on := 7, ground := Ground.data }], guard := none }) rfl rfl (fun K hK => ?_) ?_
    · clear hHeld c0
      obtain ⟨v1, V1, e1, o7, g7⟩ := append_ints (IOwns.nil V0 V0.heap.size) (some ⟨b, off + k, none⟩) (k1 - k) (l.drop k) (fun h => by cases h) (HIA.out V0 (Below.refl _ _)) (Nat.le_refl _) (by first | (simp; done) | (simp; omega))
      rw [List.nil_append] at o7
      have HB7 : Hid (Below V0.heap.size V0 V1) := below_grown (Below.refl _ _) (IOwns.nil V0 V0.heap.size) (Nat.le_refl _) (Nat.le_refl _) g7
      rw [HLA.out] at e1
      have c0 := later HB7.out HC0.out
      refine oper_append (.const (.slice none 0 0)) (.tmp 116) 27 rfl 27 rfl (.slice none 0 0) (.slice (some ⟨b, off + k, none⟩) (l.length - k) (k1 - k)) v1 V1 (by rfl) (by rfl) ?_ ?_
      with_reducible exact e1
      clear e1 g7
      have HO7 := hide o7
      clear o7
      refine hK.out _ _ (by first | with_reducible exact c0 | exact cell_other c0 hbg) (fun hHeld => ?_)
      clear hK K
      try simp only [Act.put, List.setIfInBounds_toArray, List.set_cons_zero, List.set_cons_succ]
      refine wpAnyH_ready (rs := [15]) (by kernel_rfl) (by simp) ?_
      refine ready_cons ({ dst := some 124, op := Op.call { callee := Callee.builtin Builtin.append, args := #[Operand.tmp 117, Operand.tmp 123], argTypes := #[27, 27] }, type := 27, pos := "law.go:140", after := #[{ on := 8, ground := Ground.data }, { on := 14, ground := Ground.data }, { on := 8, ground := Ground.chain }], guard := none }) rfl rfl (fun K hK => ?_) ?_
      · clear hHeld c0
        obtain ⟨v2, V2, e2, o8, g8⟩ := append_ints HO7.out (some ⟨b, off, none⟩) (k1) (l.take k) (fun h => by cases h) (HIB.out V1 HB7.out) HB7.out.size (by first | (simp; done) | (rw [HLA.out, HLB.out]; omega))
        have HB8 : Hid (Below V0.heap.size V0 V2) := below_grown HB7.out HO7.out (Nat.le_refl _) HB7.out.size g8
        rw [HLB.out] at e2
        have c0 := later HB8.out HC0.out
        obtain ⟨p9, l9, c9, rfl⟩ : ∃ p9 l9 c9, v2 = .slice p9 l9 c9 := by obtain ⟨p9, c9, h9, _⟩ := o8.form; exact ⟨_, _, _, h9⟩
        refine oper_append (.tmp 117) (.tmp 123) 27 rfl 27 rfl v1 (.slice (some ⟨b, off, none⟩) k k1) (.slice p9 l9 c9) V2 (by rfl) (by rfl) ?_ ?_
        with_reducible exact e2
        clear e2 g8
        have HO8 := hide o8
        clear o8
        refine hK.out _ _ (by first | with_reducible exact c0 | exact cell_other c0 hbg) (fun hHeld => ?_)
        clear hK K
        try simp only [Act.put, List.setIfInBounds_toArray, List.set_cons_zero, List.set_cons_succ]
        refine wpAnyH_take (i := 16) (v := ?v45) rfl (by kernel_rfl) (by kernel_rfl) (by kernel_rfl) (fun c a w h => hQ c a _ w h rfl) (Or.inl ⟨by rfl, ?hy45⟩) (by assumption) ?rest45
        case hy45 => (intro w hSw; (try dsimp only at hSw); go_simp; try with_reducible rfl)
        try simp only [Act.put, List.getElem_toArray, List.getElem_cons_zero, List.getElem_cons_succ, List.setIfInBounds_toArray, List.set_cons_zero, List.set_cons_succ]
        refine wpAnyH_ready (rs := [17]) (by kernel_rfl) (by simp) ?_
        refine AllReadyH.cons rfl (fun K hK => ?_) ?_
        · clear hHeld
          obtain ⟨d0, f0⟩ := HCE.out V2 HB8.out
          go_simp
          clear d0 f0
          refine hK.out _ _ (by first | with_reducible exact c0 | exact cell_other c0 hbg) (fun hHeld => ?_)
          clear hK K
          try simp only [List.setIfInBounds_toArray, List.set_cons_zero, List.set_cons_succ]
          refine wpAnyH_done (by kernel_rfl) ?_ _
          clear hHeld
          exact hend V2 p9 l9 c9 _ _ _ _ _ _ _ _ _ _ _ _ _ _ _ _ _ (HEND.out V2 HB8.out) (by have := IOwns.base HO8.out HSZ.out; exact this)
        exact AllReadyH.nil
      exact AllReadyH.nil
    exact AllReadyH.nil
end Go.Proofs.Ytllkadgpkbaghaa

