/-
  The tables of Kinds and of codes; what codeOf, kindOf and fieldOf answer, as contracts.
-/
import Derived.Test.YteodlkgbakkjmaaDoorBase
import Derived.Test.YteodlkgbakkjmaaDoorSpec
import Derived.Test.YteodlkgbakkjmaaDoorPlace
namespace Go.Proofs.YteodlkgbakkjmaaDoor
open Go.ChangeShapes Go.WideShapes Go.ChangeAt Go.RowKit

abbrev codesA : Array Value := #[.int .i64 3, .int .i64 6, .int .i64 5, .int .i64 11, .int .i64 6, .int .i64 12, .int .i64 8, .int .i64 13, .int .i64 9, .int .i64 14]
structure Cd (w : World) : Prop where
  codes : ∃ t fr, w.heap[0]? = some (.cells codesA t fr)
theorem Cd.pos {w : World} (h : Cd w) : 0 < w.heap.size := by
  obtain ⟨t, fr, h⟩ := h.codes
  by_cases hz : 0 < w.heap.size
  · exact hz
  · rw [Array.getElem?_eq_none (by omega)] at h; cases h
theorem Cd.below {w w' : World} (h : Cd w) (g : Below w.heap.size w w') : Cd w' := by
  have hp := h.pos
  obtain ⟨t, fr, h⟩ := h.codes
  exact ⟨t, fr, (g.block 0 hp).trans h⟩
theorem Cd.alloc {w : World} (h : Cd w) (o : Obj) : Cd (w.alloc o) := h.below (by go_grown)
theorem idxC (cs : List Value) (i : Int) (h0 : 0 ≤ i) (h1 : i < 5) (w : World) : (Instr.index 109 (.agg cs.toArray) (.int .i64 i)).run Tryd.prog w = .ok (.agg ((cs.drop (i.toNat * 2)).take 2).toArray) w := by
  have hn : 0 ≤ i ∧ i < ((5 : Nat) : Int) := by omega
  have hu : Tryd.prog.underlying 109 = some (.array 5 108) := Tryd.underlying109
  have e : cs.toArray.extract (i.toNat * 2) (i.toNat * 2 + 2) = ((cs.drop (i.toNat * 2)).take 2).toArray := by
    apply Array.toList_inj.1
    simp [List.extract_eq_take_drop]
  rw [← e]
  clear e
  simp [Instr.index, run_underlying hu, asIntOf, hn, go_sem]
  intro h
  omega
theorem idc0 (w : World) : (Instr.index 109 (.agg codesA) (.int .i64 0)).run Tryd.prog w = .ok (.agg #[.int .i64 3, .int .i64 6]) w := idxC _ 0 (by omega) (by omega) w
theorem idc1 (w : World) : (Instr.index 109 (.agg codesA) (.int .i64 1)).run Tryd.prog w = .ok (.agg #[.int .i64 5, .int .i64 11]) w := idxC _ 1 (by omega) (by omega) w
theorem idc2 (w : World) : (Instr.index 109 (.agg codesA) (.int .i64 2)).run Tryd.prog w = .ok (.agg #[.int .i64 6, .int .i64 12]) w := idxC _ 2 (by omega) (by omega) w
theorem idc3 (w : World) : (Instr.index 109 (.agg codesA) (.int .i64 3)).run Tryd.prog w = .ok (.agg #[.int .i64 8, .int .i64 13]) w := idxC _ 3 (by omega) (by omega) w
theorem idc4 (w : World) : (Instr.index 109 (.agg codesA) (.int .i64 4)).run Tryd.prog w = .ok (.agg #[.int .i64 9, .int .i64 14]) w := idxC _ 4 (by omega) (by omega) w
theorem code_cases (f : Int) : f = 3 ∨ f = 5 ∨ f = 6 ∨ f = 8 ∨ f = 9 ∨ (((3 : Int) == f) = false ∧ ((5 : Int) == f) = false ∧ ((6 : Int) == f) = false ∧ ((8 : Int) == f) = false ∧ ((9 : Int) == f) = false ∧ codeV f = 0) := by
  by_cases h1 : f = 3
  · exact .inl h1
  by_cases h2 : f = 5
  · exact .inr (.inl h2)
  by_cases h3 : f = 6
  · exact .inr (.inr (.inl h3))
  by_cases h4 : f = 8
  · exact .inr (.inr (.inr (.inl h4)))
  by_cases h5 : f = 9
  · exact .inr (.inr (.inr (.inr (.inl h5))))
  refine .inr (.inr (.inr (.inr (.inr ⟨?_, ?_, ?_, ?_, ?_, ?_⟩))))
  · simp; omega
  · simp; omega
  · simp; omega
  · simp; omega
  · simp; omega
  · unfold codeV; simp [h1, h2, h3, h4, h5]
set_option maxRecDepth 20000 in
set_option maxHeartbeats 4000000 in
theorem codeOf_any (f : Int) (w : World) (hd : Cd w) :
    Calls Tryd.prog 83 #[.int .i64 f] w fun e w' => e = .returned (.int .i64 (codeV f)) ∧ Below w.heap.size w w' := by
  obtain ⟨ct, cfr, hd⟩ := hd.codes
  have x0 := idc0
  have x1 := idc1
  have x2 := idc2
  have x3 := idc3
  have x4 := idc4
  rcases code_cases f with rfl | rfl | rfl | rfl | rfl | ⟨b1, b2, b3, b4, b5, hc⟩
  case inr.inr.inr.inr.inr =>
    rw [hc]
    go_enter Tryd.func83, Tryd.ntmps83
    go_wp2_with (refine wpList_load_row rfl 109 (.global 0) rfl 0 rfl ct codesA cfr _ hd Tryd.underlying109 rfl (by kernel_rfl) ?_)
    clear hd
    go_rounds 6
    go_ret
    exact ⟨rfl, by go_grown⟩
  all_goals
    go_enter Tryd.func83, Tryd.ntmps83
    go_wp2_with (refine wpList_load_row rfl 109 (.global 0) rfl 0 rfl ct codesA cfr _ hd Tryd.underlying109 rfl (by kernel_rfl) ?_)
    clear hd
    go_rounds 6
    go_ret
    exact ⟨rfl, by go_grown⟩
end Go.Proofs.YteodlkgbakkjmaaDoor
