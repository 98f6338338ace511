/-
  The document's answers for two numbers: Key, Right, Less, whole, down, Add.
-/
import Derived.Test.YtfkkciepbmijaaaCostAdd
namespace Go.Proofs.Ytfkkciepbmijaaa
open Go.ChangeShapes Go.WideShapes Go.ChangeAt Go.RowKit
set_option linter.unusedVariables false

theorem wr_i64 (n : Int) (h0 : -9223372036854775808 ≤ n) (h1 : n < 9223372036854775808) : IntKind.i64.wrap n = n := by simp [IntKind.wrap, IntKind.bits, IntKind.signed]; omega
theorem wr_u64 (n : Int) (h0 : 0 ≤ n) (h1 : n < 18446744073709551616) : IntKind.u64.wrap n = n := by simp [IntKind.wrap, IntKind.bits, IntKind.signed]; omega
set_option maxHeartbeats 400000 in
theorem rright_any (a : Nat) (ha : a < 2 ^ 64) (w : World) : Calls Try.prog 11 #[.int .u64 a] w fun e w' => e = .returned (.bool (rightB a)) ∧ w' = w := by
  unfold rightB infR
  by_cases h1 : (a : Int) < 9218868437227405312
  · have e1 : decide (a < 9218868437227405312) = true := decide_eq_true (by omega)
    rw [e1]
    clear e1
    go_enter Try.func11, Try.ntmps11
    go_wp2
    go_ret
    exact ⟨rfl, rfl⟩
  · have e1 : decide (a < 9218868437227405312) = false := decide_eq_false (by omega)
    rw [e1]
    clear e1
    by_cases h2 : (a : Int) = 9223372036854775808
    · have e2 : (a == 2 ^ 63) = true := beq_iff_eq.2 (by omega)
      rw [e2]
      clear e2
      go_enter Try.func11, Try.ntmps11
      go_wp2
      go_ret
      exact ⟨rfl, rfl⟩
    · have e2 : (a == 2 ^ 63) = false := beq_eq_false_iff_ne.2 (by omega)
      have e3 : ((a : Int) == 9223372036854775808) = false := beq_eq_false_iff_ne.2 h2
      rw [e2]
      clear e2
      go_enter Try.func11, Try.ntmps11
      go_wp2
      go_ret
      exact ⟨rfl, rfl⟩
set_option maxHeartbeats 1000000 in
theorem rkey_any (a : Nat) (ha : a < 2 ^ 64) (w : World) : Calls Try.prog 28 #[.int .u64 a] w fun e w' => e = .returned (.int .i64 (ky a)) ∧ w' = w := by
  have hI : infR = 9218868437227405312 := rfl
  have hm : (a : Int) % 9223372036854775808 = ((a % 2 ^ 63 : Nat) : Int) := by omega
  have hlt : a % 2 ^ 63 < 9223372036854775808 := by omega
  unfold ky
  obtain ⟨r, hr⟩ : ∃ r, a % 2 ^ 63 = r := ⟨_, rfl⟩
  rw [hr] at hm hlt ⊢
  by_cases h1 : 9218868437227405312 < r
  · have z1 : (9218868437227405312 : Int) < (r : Int) := by omega
    rw [if_pos (by rw [hI]; exact h1)]
    clear hr hI
    go_enter Try.func28, Try.ntmps28
    go_wp2
    go_ret
    exact ⟨rfl, rfl⟩
  · have z1 : ¬ (9218868437227405312 : Int) < (r : Int) := by omega
    rw [if_neg (by rw [hI]; exact h1)]
    by_cases h2 : (9223372036854775808 : Int) ≤ (a : Int)
    · rw [if_pos (by omega)]
      clear hr hI
      have w1 : IntKind.i64.wrap (r : Int) = (r : Int) := wr_i64 _ (by omega) (by omega)
      have w2 : IntKind.i64.wrap (-(r : Int)) = -(r : Int) := wr_i64 _ (by omega) (by omega)
      go_enter Try.func28, Try.ntmps28
      go_wp2
      go_ret
      exact ⟨rfl, rfl⟩
    · rw [if_neg (by omega)]
      clear hr hI
      have w1 : IntKind.i64.wrap (r : Int) = (r : Int) := wr_i64 _ (by omega) (by omega)
      go_enter Try.func28, Try.ntmps28
      go_wp2
      go_ret
      exact ⟨rfl, rfl⟩
set_option maxHeartbeats 1000000 in
theorem rless_any (a b : Nat) (ha : a < 2 ^ 64) (hb : b < 2 ^ 64) (w : World) : Calls Try.prog 13 #[.int .u64 a, .int .u64 b] w fun e w' => e = .returned (.bool (lessB a b)) ∧ w' = w := by
  unfold lessB
  go_enter Try.func13, Try.ntmps13
  go_wp2_with (first | (go_at_call_of 28 (Value.int IntKind.u64 (a : Int)); refine (rkey_any a ha _).mono ?_; rintro e w' ⟨rfl, rfl⟩) | (go_at_call_of 28 (Value.int IntKind.u64 (b : Int)); refine (rkey_any b hb _).mono ?_; rintro e w' ⟨rfl, rfl⟩))
  go_ret
  exact ⟨rfl, rfl⟩
end Go.Proofs.Ytfkkciepbmijaaa
