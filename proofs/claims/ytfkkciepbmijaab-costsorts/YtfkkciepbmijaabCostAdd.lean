/-
  cost.Add.
-/
import Derived.Test.YtfkkciepbmijaabCost
namespace Go.Proofs.Ytfkkciepbmijaab
open Go.ChangeShapes Go.WideShapes Go.ChangeAt Go.RowKit
set_option linter.unusedVariables false

theorem zero_is (a : Nat) (h : rightB a = true) : (Ieee.double.order a 0 == some .eq) = decide (a % 2 ^ 63 = 0) := by
  rw [eql_is a 0 (rung_right h).1 (by decide)]
  have k0 : ky 0 = 0 := by decide
  have n0 : nanB 0 = false := by decide
  have na : nanB a = false := by unfold nanB; exact decide_eq_false (by have := (rung_right h).2.1; omega)
  rw [k0, n0, na, ky_right h, Bool.eq_iff_iff]
  simp only [Bool.not_false, Bool.true_and, decide_eq_true_eq]
  omega
theorem add_of (a b : Nat) (ha : rightB a = true) (hb : rightB b = true) : addB a b = rnd (vl (a % 2 ^ 63) + vl (b % 2 ^ 63)) := by unfold addB; rw [ha, hb, Bool.and_self, if_pos rfl]
theorem add_no (a b : Nat) (h : rightB a = false ∨ rightB b = false) : addB a b = infR := by
  unfold addB
  rcases h with h | h <;> rw [h] <;> simp
theorem add_zero (a b : Nat) (ha : rightB a = true) (hb : rightB b = true) (h1 : a % 2 ^ 63 = 0) (h2 : b % 2 ^ 63 = 0) : addB a b = 0 := by
  rw [add_of a b ha hb, h1, h2, vl_zero, Nat.add_zero, rnd_zero]
theorem sum_run (a b : Nat) (ha : rightB a = true) (hb : rightB b = true) (hz : ¬ (a % 2 ^ 63 = 0 ∧ b % 2 ^ 63 = 0)) (w : World) : (binOp .add 27 (.float .f64 a) (.float .f64 b)).run Try.prog w = .ok (.float .f64 (addB a b)) w := by
  have hs : floatBits .add .f64 a b = some (addB a b) := by
    rw [add_of a b ha hb, ← sum_is a b ha hb hz]
    rfl
  exact run_float_arith w .add 27 .f64 a b _ hs
set_option maxHeartbeats 8000000 in
theorem add_any (a b : Nat) (ha : a < 2 ^ 64) (hb : b < 2 ^ 64) (w : World) : Calls Try.prog 13 #[.float .f64 a, .float .f64 b] w fun e w' => e = .returned (.float .f64 (addB a b)) ∧ w' = w := by
  have na := right_any a ha w
  have nb := right_any b hb w
  have ni := inf_any w
  cases r1 : rightB a
  · rw [r1] at na
    rw [add_no a b (.inl r1)]
    clear r1
    go_enter Try.func13, Try.ntmps13
    go_wp2_with (first | (go_at_call_of 14 (Value.float FloatKind.f64 a); refine na.mono ?_; rintro e w' ⟨rfl, rfl⟩) | (go_at_call 20; refine ni.mono ?_; rintro e w' ⟨rfl, rfl⟩))
    go_ret
    exact ⟨rfl, rfl⟩
  · cases r2 : rightB b
    · rw [r1] at na
      rw [r2] at nb
      rw [add_no a b (.inr r2)]
      clear r1 r2
      go_enter Try.func13, Try.ntmps13
      go_wp2_with (first | (go_at_call_of 14 (Value.float FloatKind.f64 b); refine nb.mono ?_; rintro e w' ⟨rfl, rfl⟩) | (go_at_call_of 14 (Value.float FloatKind.f64 a); refine na.mono ?_; rintro e w' ⟨rfl, rfl⟩) | (go_at_call 20; refine ni.mono ?_; rintro e w' ⟨rfl, rfl⟩))
      go_ret
      exact ⟨rfl, rfl⟩
    · have z1 : (binOp .eql 27 (.float .f64 a) (.float .f64 0) : Sem Value) = pure (.bool (decide (a % 2 ^ 63 = 0))) := (binOp_float_cmp_eql _ _ _ _).trans (by rw [fmt64, zero_is a r1])
      have z2 : (binOp .eql 27 (.float .f64 b) (.float .f64 0) : Sem Value) = pure (.bool (decide (b % 2 ^ 63 = 0))) := (binOp_float_cmp_eql _ _ _ _).trans (by rw [fmt64, zero_is b r2])
      obtain ⟨p, hp⟩ : ∃ p, decide (a % 2 ^ 63 = 0) = p := ⟨_, rfl⟩
      obtain ⟨q, hq⟩ : ∃ q, decide (b % 2 ^ 63 = 0) = q := ⟨_, rfl⟩
      rw [hp] at z1
      rw [hq] at z2
      rw [r1] at na
      rw [r2] at nb
      by_cases hz : p = true ∧ q = true
      · obtain ⟨rfl, rfl⟩ := hz
        rw [add_zero a b r1 r2 (of_decide_eq_true hp) (of_decide_eq_true hq)]
        clear r1 r2 hp hq
        go_enter Try.func13, Try.ntmps13
        go_wp2_with (first | (go_at_call_of 14 (Value.float FloatKind.f64 b); refine nb.mono ?_; rintro e w' ⟨rfl, rfl⟩) | (go_at_call_of 14 (Value.float FloatKind.f64 a); refine na.mono ?_; rintro e w' ⟨rfl, rfl⟩))
        go_ret
        exact ⟨rfl, rfl⟩
      · have hs : floatBits .add .f64 a b = some (addB a b) := (show Ieee.double.add a b = _ by
          rw [add_of a b r1 r2]
          exact sum_is a b r1 r2 (fun h => hz ⟨by rw [← hp]; exact decide_eq_true h.1, by rw [← hq]; exact decide_eq_true h.2⟩))
        have hadd : ∀ w, (binOp .add 27 (.float .f64 a) (.float .f64 b)).run Try.prog w = .ok (.float .f64 (addB a b)) w := fun w => run_float_arith w .add 27 .f64 a b _ hs
        have hz' : p = false ∨ (p = true ∧ q = false) := by cases p <;> cases q <;> simp at hz ⊢
        generalize addB a b = c at *
        clear r1 r2 hp hq hz
        rcases hz' with rfl | ⟨rfl, rfl⟩
        all_goals
          go_enter Try.func13, Try.ntmps13
          go_wp2_with (first | (go_at_call_of 14 (Value.float FloatKind.f64 b); refine nb.mono ?_; rintro e w' ⟨rfl, rfl⟩) | (go_at_call_of 14 (Value.float FloatKind.f64 a); refine na.mono ?_; rintro e w' ⟨rfl, rfl⟩))
          go_ret
          exact ⟨rfl, rfl⟩
end Go.Proofs.Ytfkkciepbmijaab
