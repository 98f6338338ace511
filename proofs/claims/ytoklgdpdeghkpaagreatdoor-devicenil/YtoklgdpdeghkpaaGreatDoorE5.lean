/-
  An empty switch: table.New, group.New, device.New, and what State of it answers, as contracts.
-/
import Derived.Test.YtoklgdpdeghkpaaGreatDoorE4
import Derived.Maps.RangeRun
import Derived.Maps.RangeWalk
namespace Go.Proofs.YtoklgdpdeghkpaaGreatDoor
open Go.ChangeShapes Go.WideShapes Go.ChangeAt Go.RowKit
set_option linter.unusedVariables false
set_option linter.unusedSimpArgs false

set_option maxHeartbeats 1000000 in
theorem tnew_9 (w : World) : Calls Tryz.prog 47 #[.int .i64 9] w fun e w' => e = .returned (.tuple #[.pointer (some ⟨w.heap.size, 0, none⟩), .int .i64 0]) ∧ w' = w.alloc (.cells #[.int .i64 9, .slice none 0 0, .slice none 0 0, .slice none 0 0, .slice none 0 0, .slice none 0 0, .slice none 0 0, .slice none 0 0, .slice none 0 0] 179) := by
  go_enter Tryz.func47, Tryz.ntmps47
  go_wp2
  go_ret2
  exact ⟨rfl, rfl⟩
set_option maxHeartbeats 1000000 in
theorem gwithin_9 (w : World) : Calls Tryz.prog 99 #[.int .i64 9, .int .i64 1, .int .i64 64] w fun e w' => e = .returned (.bool true) ∧ w' = w := by
  go_enter Tryz.func99, Tryz.ntmps99
  go_wp2
  go_ret
  exact ⟨rfl, rfl⟩
set_option maxHeartbeats 1000000 in
theorem gnew_9 (w : World) : Calls Tryz.prog 48 #[.int .i64 9] w fun e w' => e = .returned (.tuple #[.pointer (some ⟨w.heap.size + 1, 0, none⟩), .int .i64 0]) ∧ w' = (w.alloc (.map #[] 0)).alloc (.cells #[.int .i64 9, .map (some w.heap.size)] 121) := by
  have hmm := @run_makeMap Tryz.prog
  go_enter Tryz.func48, Tryz.ntmps48
  go_wp2_with (go_at_call 99; refine (gwithin_9 _).mono ?_; rintro e w' ⟨rfl, rfl⟩)
  go_ret2
  exact ⟨rfl, rfl⟩
set_option maxRecDepth 20000 in
set_option maxHeartbeats 1000000 in
theorem len64_0 (w : World) : Calls Tryz.prog 212 #[.int .u64 0] w fun e w' => e = .returned (.int .i64 0) ∧ w' = w := by
  go_enter Tryz.func212, Tryz.ntmps212
  go_wp2
  go_ret
  exact ⟨ret_int (by kernel_rfl), rfl⟩
set_option maxRecDepth 20000 in
set_option maxHeartbeats 1000000 in
theorem len_0 (w : World) : Calls Tryz.prog 158 #[.int .u64 0] w fun e w' => e = .returned (.int .i64 0) ∧ w' = w := by
  go_enter Tryz.func158, Tryz.ntmps158
  go_wp2_with (go_at_call 212; refine (len64_0 _).mono ?_; rintro e w' ⟨rfl, rfl⟩)
  go_ret
  exact ⟨rfl, rfl⟩
set_option maxRecDepth 20000 in
set_option maxHeartbeats 1000000 in
theorem ins_0 (w : World) : Calls Tryz.prog 202 #[.slice none 0 0, .int .i64 0, .int .i64 0] w fun e w' => e = .returned (.tuple #[]) ∧ w' = w := by
  go_enter Tryz.func202, Tryz.ntmps202
  go_wp2
  go_rounds 1
  go_end0
  exact ⟨rfl, rfl⟩
set_option maxRecDepth 20000 in
set_option maxHeartbeats 1000000 in
theorem pdq_0 (w : World) : Calls Tryz.prog 157 #[.slice none 0 0, .int .i64 0, .int .i64 0, .int .i64 0] w fun e w' => e = .returned (.tuple #[]) ∧ w' = w := by
  go_enter Tryz.func157, Tryz.ntmps157
  go_wp2
  go_loop [1, 2] (fun a b => a = .int .i64 0 ∧ b = .int .i64 0) (fun _ _ => 0)
  case atStart => exact ⟨rfl, rfl⟩
  case round =>
    obtain ⟨rfl, rfl⟩ := hrel
    go_wp2_with (go_at_call 202; refine (ins_0 _).mono ?_; rintro e w' ⟨rfl, rfl⟩)
    first | (go_end0; exact ⟨rfl, rfl⟩) | ((try simp only [Exit.inBlock, Exit.then]); refine bodyPost_ret (results_none rfl _ _ _) rfl ?_; exact ⟨rfl, rfl⟩)
set_option maxRecDepth 20000 in
set_option maxHeartbeats 1000000 in
theorem sort_nil (w : World) : Calls Tryz.prog 95 #[.slice none 0 0] w fun e w' => e = .returned (.tuple #[]) ∧ w' = w := by
  go_enter Tryz.func95, Tryz.ntmps95
  go_wp2_with (first | (go_at_call 158; refine (len_0 _).mono ?_; rintro e w' ⟨rfl, rfl⟩) | (go_at_call 157; refine (pdq_0 _).mono ?_; rintro e w' ⟨rfl, rfl⟩))
  go_end0
  exact ⟨rfl, rfl⟩
/-- At tb lies a table without groups. -/
structure Te (w : World) (tb mb : Nat) : Prop where
  c1 : w.cell? ⟨tb, 1, none⟩ = some (.map (some mb))
  m : w.heap[mb]? = some (.map #[] 0)
  lt : tb < w.heap.size
  ml : mb < w.heap.size
theorem Te.below {w w' : World} {tb mb : Nat} (h : Te w tb mb) (g : Below w.heap.size w w') : Te w' tb mb :=
  ⟨(g.cell (p := ⟨tb, 1, none⟩) h.lt).trans h.c1, (g.block mb h.ml).trans h.m, Nat.lt_of_lt_of_le h.lt g.size, Nat.lt_of_lt_of_le h.ml g.size⟩
set_option maxRecDepth 20000 in
set_option maxHeartbeats 2000000 in
theorem numbers_e (w : World) (tb mb : Nat) (h : Te w tb mb) : Calls Tryz.prog 43 #[.pointer (some ⟨tb, 0, none⟩)] w fun e w' => e = .returned (.slice none 0 0) ∧ Below w.heap.size w w' := by
  have c1 := h.c1
  have hr := run_range_map w 119 3 50 mb #[] 0 Tryz.underlying119 h.m
  have g0 : Below w.heap.size w (w.alloc (.mapIter (some mb) 0 #[] 0)) := by go_grown
  have HN : Hid (∀ ty, (Instr.next (.pointer (some ⟨w.heap.size, 0, none⟩)) false ty).run Tryz.prog (w.alloc (.mapIter (some mb) 0 #[] 0)) = .ok (.tuple #[.bool false]) (w.alloc (.mapIter (some mb) 0 #[] 0))) := (show ∀ ty, _ from fun ty => by
    rcases run_next_at (P := Tryz.prog) (w.alloc (.mapIter (some mb) 0 #[] 0)) ty w.heap.size mb 0 0 #[] #[] 0 (MapKept.heap_alloc w _).1 ((g0.block mb h.ml).trans h.m) (by simp) (Nat.le_refl _) with ⟨_, h⟩ | ⟨e, he, _⟩
    · exact h
    · simp [leftOf] at he)
  clear h
  go_enter Tryz.func43, Tryz.ntmps43
  go_wp2_with fail
  go_loopw [3, 10] (fun v3 _ wr => v3 = .slice none 0 0 ∧ wr = w.alloc (.mapIter (some mb) 0 #[] 0)) (fun _ _ _ => 0)
  case atStart => exact ⟨rfl, rfl⟩
  case round =>
    obtain ⟨rfl, rfl⟩ := hrel
    have hn := HN.out
    go_wp2_with (go_at_call 95; refine (sort_nil _).mono ?_; rintro e w' ⟨rfl, rfl⟩)
    go_ret
    exact ⟨rfl, g0⟩
end Go.Proofs.YtoklgdpdeghkpaaGreatDoor
