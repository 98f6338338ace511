/-
  The tables of Kinds and of codes; what codeOf, kindOf and fieldOf answer, as contracts.
-/
import Derived.Test.YtjjfhibkcngphaaGreatDoorBase
import Derived.Test.YtjjfhibkcngphaaGreatDoorSpec
import Derived.Test.YtjjfhibkcngphaaGreatDoorPlace
namespace Go.Proofs.YtjjfhibkcngphaaGreatDoor
open Go.ChangeShapes Go.WideShapes Go.ChangeAt Go.RowKit

abbrev kindsA : Array Value := #[.int .i64 1, .int .i64 0, .int .i64 16, .int .i64 2, .int .i64 22, .int .i64 8, .int .i64 3, .int .i64 17, .int .i64 8, .int .i64 4, .int .i64 18, .int .i64 8, .int .i64 5, .int .i64 25, .int .i64 16]
abbrev codesA : Array Value := #[.int .i64 3, .int .i64 6, .int .i64 5, .int .i64 11, .int .i64 6, .int .i64 12, .int .i64 8, .int .i64 13, .int .i64 9, .int .i64 14]
structure Cd (w : World) : Prop where
  kinds : ∃ t fr, w.heap[0]? = some (.cells kindsA t fr)
  codes : ∃ t fr, w.heap[1]? = some (.cells codesA t fr)
theorem Cd.pos {w : World} (h : Cd w) : 1 < w.heap.size := by
  obtain ⟨t, fr, h⟩ := h.codes
  by_cases hz : 1 < w.heap.size
  · exact hz
  · rw [Array.getElem?_eq_none (by omega)] at h; cases h
theorem Cd.below {w w' : World} (h : Cd w) (g : Below w.heap.size w w') : Cd w' := by
  have hp := h.pos
  have hb0 := g.block 0 (by omega)
  have hb1 := g.block 1 hp
  obtain ⟨⟨t, fr, h0⟩, ⟨t1, fr1, h1⟩⟩ := h
  exact ⟨⟨t, fr, hb0.trans h0⟩, ⟨t1, fr1, hb1.trans h1⟩⟩
theorem Cd.alloc {w : World} (h : Cd w) (o : Obj) : Cd (w.alloc o) := h.below (by go_grown)
theorem idxK (cs : List Value) (i : Int) (h0 : 0 ≤ i) (h1 : i < 5) (w : World) : (Instr.index 113 (.agg cs.toArray) (.int .i64 i)).run Tryz.prog w = .ok (.agg ((cs.drop (i.toNat * 3)).take 3).toArray) w := by
  have hn : 0 ≤ i ∧ i < ((5 : Nat) : Int) := by omega
  have hu : Tryz.prog.underlying 113 = some (.array 5 112) := Tryz.underlying113
  have e : cs.toArray.extract (i.toNat * 3) (i.toNat * 3 + 3) = ((cs.drop (i.toNat * 3)).take 3).toArray := by
    apply Array.toList_inj.1
    simp [List.extract_eq_take_drop]
  rw [← e]
  clear e
  simp [Instr.index, run_underlying hu, asIntOf, hn, go_sem]
  intro h
  omega
theorem idxC (cs : List Value) (i : Int) (h0 : 0 ≤ i) (h1 : i < 5) (w : World) : (Instr.index 134 (.agg cs.toArray) (.int .i64 i)).run Tryz.prog w = .ok (.agg ((cs.drop (i.toNat * 2)).take 2).toArray) w := by
  have hn : 0 ≤ i ∧ i < ((5 : Nat) : Int) := by omega
  have hu : Tryz.prog.underlying 134 = some (.array 5 133) := Tryz.underlying134
  have e : cs.toArray.extract (i.toNat * 2) (i.toNat * 2 + 2) = ((cs.drop (i.toNat * 2)).take 2).toArray := by
    apply Array.toList_inj.1
    simp [List.extract_eq_take_drop]
  rw [← e]
  clear e
  simp [Instr.index, run_underlying hu, asIntOf, hn, go_sem]
  intro h
  omega
theorem idk0 (w : World) : (Instr.index 113 (.agg kindsA) (.int .i64 0)).run Tryz.prog w = .ok (.agg #[.int .i64 1, .int .i64 0, .int .i64 16]) w := idxK _ 0 (by omega) (by omega) w
theorem idk1 (w : World) : (Instr.index 113 (.agg kindsA) (.int .i64 1)).run Tryz.prog w = .ok (.agg #[.int .i64 2, .int .i64 22, .int .i64 8]) w := idxK _ 1 (by omega) (by omega) w
theorem idk2 (w : World) : (Instr.index 113 (.agg kindsA) (.int .i64 2)).run Tryz.prog w = .ok (.agg #[.int .i64 3, .int .i64 17, .int .i64 8]) w := idxK _ 2 (by omega) (by omega) w
theorem idk3 (w : World) : (Instr.index 113 (.agg kindsA) (.int .i64 3)).run Tryz.prog w = .ok (.agg #[.int .i64 4, .int .i64 18, .int .i64 8]) w := idxK _ 3 (by omega) (by omega) w
theorem idk4 (w : World) : (Instr.index 113 (.agg kindsA) (.int .i64 4)).run Tryz.prog w = .ok (.agg #[.int .i64 5, .int .i64 25, .int .i64 16]) w := idxK _ 4 (by omega) (by omega) w
theorem idc0 (w : World) : (Instr.index 134 (.agg codesA) (.int .i64 0)).run Tryz.prog w = .ok (.agg #[.int .i64 3, .int .i64 6]) w := idxC _ 0 (by omega) (by omega) w
theorem idc1 (w : World) : (Instr.index 134 (.agg codesA) (.int .i64 1)).run Tryz.prog w = .ok (.agg #[.int .i64 5, .int .i64 11]) w := idxC _ 1 (by omega) (by omega) w
theorem idc2 (w : World) : (Instr.index 134 (.agg codesA) (.int .i64 2)).run Tryz.prog w = .ok (.agg #[.int .i64 6, .int .i64 12]) w := idxC _ 2 (by omega) (by omega) w
theorem idc3 (w : World) : (Instr.index 134 (.agg codesA) (.int .i64 3)).run Tryz.prog w = .ok (.agg #[.int .i64 8, .int .i64 13]) w := idxC _ 3 (by omega) (by omega) w
theorem idc4 (w : World) : (Instr.index 134 (.agg codesA) (.int .i64 4)).run Tryz.prog w = .ok (.agg #[.int .i64 9, .int .i64 14]) w := idxC _ 4 (by omega) (by omega) w
theorem code_cases (f : Int) : f = 3 ∨ f = 5 ∨ f = 6 ∨ f = 8 ∨ f = 9 ∨ (((3 : Int) == f) = false ∧ ((5 : Int) == f) = false ∧ ((6 : Int) == f) = false ∧ ((8 : Int) == f) = false ∧ ((9 : Int) == f) = false ∧ codeV f = 0) := by
  by_cases h1 : f = 3
  · exact .inl h1
  by_cases h2 : f = 5
  · exact .inr (.inl h2)
  by_cases h3 : f = 6
  · exact .inr (.inr (.inl h3))
  by_cases h4 : f = 8
  · exact .inr (.inr (.inr (.inl h4)))
  by_cases h5 : f = 9
  · exact .inr (.inr (.inr (.inr (.inl h5))))
  refine .inr (.inr (.inr (.inr (.inr ⟨?_, ?_, ?_, ?_, ?_, ?_⟩))))
  · simp; omega
  · simp; omega
  · simp; omega
  · simp; omega
  · simp; omega
  · unfold codeV; simp [h1, h2, h3, h4, h5]
set_option maxRecDepth 20000 in
set_option maxHeartbeats 4000000 in
theorem codeOf_any (f : Int) (w : World) (hd : Cd w) :
    Calls Tryz.prog 100 #[.int .i64 f] w fun e w' => e = .returned (.int .i64 (codeV f)) ∧ Below w.heap.size w w' := by
  obtain ⟨ct, cfr, hd⟩ := hd.codes
  have x0 := idc0
  have x1 := idc1
  have x2 := idc2
  have x3 := idc3
  have x4 := idc4
  rcases code_cases f with rfl | rfl | rfl | rfl | rfl | ⟨b1, b2, b3, b4, b5, hc⟩
  case inr.inr.inr.inr.inr =>
    rw [hc]
    go_enter Tryz.func100, Tryz.ntmps100
    go_wp2_with (refine wpList_load_row rfl 134 (.global 1) rfl 1 rfl ct codesA cfr _ hd Tryz.underlying134 rfl (by kernel_rfl) ?_)
    clear hd
    go_rounds 6
    go_ret
    exact ⟨rfl, by go_grown⟩
  all_goals
    go_enter Tryz.func100, Tryz.ntmps100
    go_wp2_with (refine wpList_load_row rfl 134 (.global 1) rfl 1 rfl ct codesA cfr _ hd Tryz.underlying134 rfl (by kernel_rfl) ?_)
    clear hd
    go_rounds 6
    go_ret
    exact ⟨rfl, by go_grown⟩
end Go.Proofs.YtjjfhibkcngphaaGreatDoor
