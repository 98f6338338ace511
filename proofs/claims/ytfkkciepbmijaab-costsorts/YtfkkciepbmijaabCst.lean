/-
  The small functions of package math and of cost: IsNaN, Inf, Abs, IsInf; Right, Less, Add.
-/
import Derived.Test.YtfkkciepbmijaabRows
import Derived.Test.YtfkkciepbmijaabFltRef
import Derived.WalkKit
import Derived.WalkLawsBesides
import Derived.ProofKit
import Derived.OpenShut
import Derived.Handy
import Derived.Below
import Derived.Laws.Externs
import Derived.Deep.QuietTactic
import Derived.BigQuiet
import Derived.Deep.RegionWith
import Derived.Laws.AppendOwn
import Derived.Laws.OwnMore
import Derived.Laws.MakeOwn
namespace Go.Proofs.Ytfkkciepbmijaab
open Go.ChangeShapes Go.WideShapes Go.ChangeAt Go.RowKit
set_option linter.unusedVariables false

theorem from_run (n : Nat) (w : World) : (callFunc 10 #[.int .u64 (n : Int)]).run Try.prog w = .ok (.value (.float .f64 n)) w := by
  rw [run_callFunc_extern Try.func10 (by kernel_rfl) (by kernel_rfl) (by kernel_rfl) (e := Extern.MathFloatBits.float64frombits) (by kernel_rfl)]
  have e : Extern.MathFloatBits.float64frombits #[.int .u64 (n : Int)] = pure (.float .f64 n) := rfl
  rw [e]; rfl
theorem bits_run (n : Nat) (w : World) : (callFunc 12 #[.float .f64 n]).run Try.prog w = .ok (.value (.int .u64 n)) w := by
  rw [run_callFunc_extern Try.func12 (by kernel_rfl) (by kernel_rfl) (by kernel_rfl) (e := Extern.MathFloatBits.float64bits) (by kernel_rfl)]
  have e : Extern.MathFloatBits.float64bits #[.float .f64 n] = pure (.int .u64 n) := rfl
  rw [e]; rfl
/-- Of two words: how the walk meets a comparison. -/
theorem fmt64 : FloatKind.f64.format = Ieee.double := rfl

set_option maxHeartbeats 400000 in
theorem nan_any (a : Nat) (ha : a < 2 ^ 64) (w : World) : Calls Try.prog 18 #[.float .f64 a] w fun e w' => e = .returned (.bool (nanB a)) ∧ w' = w := by
  have h : (binOp .neq 27 (.float .f64 a) (.float .f64 a) : Sem Value) = pure (.bool (nanB a)) := (binOp_float_cmp_neq _ _ _ _).trans (by
    have := self_is a ha
    rw [fmt64, bne, this, Bool.not_not])
  go_enter Try.func18, Try.ntmps18
  go_wp2
  go_ret
  exact ⟨rfl, rfl⟩
set_option maxHeartbeats 400000 in
theorem inf_any (w : World) : Calls Try.prog 20 #[.int .i64 1] w fun e w' => e = .returned (.float .f64 infR) ∧ w' = w := by
  have h : ∀ w, (callFunc 10 #[.int .u64 9218868437227405312]).run Try.prog w = .ok (.value (.float .f64 infR)) w := fun w => from_run 9218868437227405312 w
  go_enter Try.func20, Try.ntmps20
  go_wp2
  go_ret
  exact ⟨rfl, rfl⟩
set_option maxHeartbeats 400000 in
theorem isinf_any (a : Nat) (ha : a < 2 ^ 64) (w : World) : Calls Try.prog 15 #[.float .f64 a, .int .i64 1] w fun e w' => e = .returned (.bool (a == infR)) ∧ w' = w := by
  have h : (binOp .gtr 27 (.float .f64 a) (.float .f64 9218868437227405311) : Sem Value) = pure (.bool (a == infR)) := (binOp_float_cmp_gtr _ _ _ _).trans (by
    have := gtr_is a 9218868437227405311 ha (by decide)
    rw [fmt64, this]
    have hI : infR = 9218868437227405312 := rfl
    have k1 : ky 9218868437227405311 = 9218868437227405311 := by decide
    have n1 : nanB 9218868437227405311 = false := by decide
    rw [n1]
    unfold lessB
    rw [k1]
    congr 2
    rw [Bool.eq_iff_iff]
    simp only [Bool.and_eq_true, Bool.not_eq_true', decide_eq_true_eq, beq_iff_eq, Bool.not_false, and_true]
    unfold nanB ky
    simp only [decide_eq_false_iff_not]
    constructor
    · rintro ⟨h1, h2⟩
      rw [if_neg h1] at h2
      split at h2 <;> omega
    · rintro h1
      subst h1
      exact ⟨by decide, by decide⟩)
  go_enter Try.func15, Try.ntmps15
  go_wp2
  go_ret
  exact ⟨rfl, rfl⟩
end Go.Proofs.Ytfkkciepbmijaab
