/-
  The small functions: within, isPort, isHost, isCost, Size, hasSwitch.
-/
import Derived.Test.YtcjojcaahpkacaaBase
namespace Go.Proofs.Ytcjojcaahpkacaa
open Go.ChangeShapes Go.WideShapes Go.ChangeAt Go.RowKit
set_option linter.unusedVariables false

set_option maxHeartbeats 400000 in
theorem within_any (n lo hi : Int) (w : World) : Calls Try.prog 27 #[.int .i64 n, .int .i64 lo, .int .i64 hi] w fun e w' => e = .returned (.bool (inB n lo hi)) ∧ w' = w := by
  unfold inB
  by_cases h1 : lo ≤ n <;> by_cases h2 : n ≤ hi <;>
  · simp only [h1, h2, decide_true, decide_false, Bool.and_true, Bool.and_false]
    go_enter Try.func27, Try.ntmps27
    go_wp2
    go_ret
    exact ⟨rfl, rfl⟩
set_option maxHeartbeats 400000 in
theorem port_any (n : Int) (w : World) : Calls Try.prog 34 #[.int .i64 n] w fun e w' => e = .returned (.bool (inB n 1 16)) ∧ w' = w := by
  go_enter Try.func34, Try.ntmps34
  go_wp2_with (go_at_call 27; refine (within_any _ _ _ _).mono ?_; rintro e w' ⟨rfl, rfl⟩)
  go_ret
  exact ⟨rfl, rfl⟩
set_option maxHeartbeats 400000 in
theorem host_any (n : Int) (w : World) : Calls Try.prog 39 #[.int .i64 n] w fun e w' => e = .returned (.bool (inB n (-64) (-1))) ∧ w' = w := by
  go_enter Try.func39, Try.ntmps39
  go_wp2_with (go_at_call 27; refine (within_any _ _ _ _).mono ?_; rintro e w' ⟨rfl, rfl⟩)
  go_ret
  exact ⟨rfl, rfl⟩
set_option maxHeartbeats 400000 in
theorem cost_any (c : Nat) (w : World) : Calls Try.prog 38 #[.float .f64 c] w fun e w' => e = .returned (.bool (costB c)) ∧ w' = w := by
  have H : costB c = (costLo c && costHi c) := rfl
  have h1 : (binOp .geq 43 (.float .f64 c) (.float .f64 0) : Sem Value) = pure (.bool (costLo c)) := binOp_float_cmp_geq _ _ _ _
  have h2 : (binOp .leq 43 (.float .f64 c) (.float .f64 4741671816366391296) : Sem Value) = pure (.bool (costHi c)) := binOp_float_cmp_leq _ _ _ _
  rw [H]
  clear H
  cases k1 : costLo c <;> cases k2 : costHi c <;>
  · rw [k1] at h1
    rw [k2] at h2
    go_enter Try.func38, Try.ntmps38
    go_wp2
    go_ret
    exact ⟨rfl, rfl⟩
set_option maxHeartbeats 400000 in
theorem size_any {B t e n : Nat} {w : World} {cv : Value} {L : List Lk} (h : Tm B w t e cv n L) : Calls Try.prog 17 #[.pointer (some ⟨t, 0, none⟩)] w fun e w' => e = .returned (.int .i64 n) ∧ w' = w := by
  have c0 := h.c0
  clear h
  go_enter Try.func17, Try.ntmps17
  go_wp2
  go_ret
  exact ⟨rfl, rfl⟩
set_option maxHeartbeats 400000 in
theorem size_nil (w : World) : Calls Try.prog 17 #[.pointer none] w fun e w' => e = .returned (.int .i64 0) ∧ w' = w := by
  go_enter Try.func17, Try.ntmps17
  go_wp2
  go_ret
  exact ⟨rfl, rfl⟩
set_option maxHeartbeats 400000 in
theorem has_any {B t e n : Nat} {w : World} {cv : Value} {L : List Lk} (h : Tm B w t e cv n L) (s : Int) : Calls Try.prog 33 #[.pointer (some ⟨t, 0, none⟩), .int .i64 s] w fun e w' => e = .returned (.bool (inB s 1 n)) ∧ w' = w := by
  go_enter Try.func33, Try.ntmps33
  go_wp2_with (first | (go_at_call 17; refine (size_any h).mono ?_; rintro e w' ⟨rfl, rfl⟩) | (go_at_call 27; refine (within_any _ _ _ _).mono ?_; rintro e w' ⟨rfl, rfl⟩))
  go_ret
  exact ⟨rfl, rfl⟩
set_option maxHeartbeats 400000 in
theorem has_nil (s : Int) (w : World) : Calls Try.prog 33 #[.pointer none, .int .i64 s] w fun e w' => e = .returned (.bool false) ∧ w' = w := by
  have H : inB s 1 0 = false := by rw [inB_false]; omega
  go_enter Try.func33, Try.ntmps33
  go_wp2_with (first | (go_at_call 17; refine (size_nil _).mono ?_; rintro e w' ⟨rfl, rfl⟩) | (go_at_call 27; refine (within_any _ _ _ _).mono ?_; rintro e w' ⟨rfl, rfl⟩))
  go_ret
  exact ⟨rfl, rfl⟩
end Go.Proofs.Ytcjojcaahpkacaa
