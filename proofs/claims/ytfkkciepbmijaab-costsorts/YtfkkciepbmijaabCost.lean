/-
  cost.Right, cost.Less, cost.Add.
-/
import Derived.Test.YtfkkciepbmijaabCst
namespace Go.Proofs.Ytfkkciepbmijaab
open Go.ChangeShapes Go.WideShapes Go.ChangeAt Go.RowKit
set_option linter.unusedVariables false

def loB (a : Nat) : Bool := (Ieee.double.order a 0 == some .gt) || (Ieee.double.order a 0 == some .eq)
def hiB (a : Nat) : Bool := (Ieee.double.order a 9218868437227405311 == some .lt) || (Ieee.double.order a 9218868437227405311 == some .eq)
set_option maxHeartbeats 400000 in
theorem right_any (a : Nat) (ha : a < 2 ^ 64) (w : World) : Calls Try.prog 14 #[.float .f64 a] w fun e w' => e = .returned (.bool (rightB a)) ∧ w' = w := by
  have H : rightB a = (loB a && hiB a) := (right_is a ha).symm
  have h1 : (binOp .geq 27 (.float .f64 a) (.float .f64 0) : Sem Value) = pure (.bool (loB a)) := binOp_float_cmp_geq _ _ _ _
  have h2 : (binOp .leq 27 (.float .f64 a) (.float .f64 9218868437227405311) : Sem Value) = pure (.bool (hiB a)) := binOp_float_cmp_leq _ _ _ _
  rw [H]
  clear H
  cases k1 : loB a <;> cases k2 : hiB a <;>
  · rw [k1] at h1
    rw [k2] at h2
    go_enter Try.func14, Try.ntmps14
    go_wp2
    go_ret
    exact ⟨rfl, rfl⟩
set_option maxHeartbeats 400000 in
theorem less_any (a b : Nat) (ha : a < 2 ^ 64) (hb : b < 2 ^ 64) (w : World) : Calls Try.prog 7 #[.float .f64 a, .float .f64 b] w fun e w' => e = .returned (.bool (lessB a b)) ∧ w' = w := by
  have H := less_is a b ha hb
  rw [self_is a ha, self_is b hb, Bool.not_not] at H
  obtain ⟨l, hl⟩ : ∃ l, (Ieee.double.order a b == some .lt) = l := ⟨_, rfl⟩
  have h1 : (binOp .lss 27 (.float .f64 a) (.float .f64 b) : Sem Value) = pure (.bool l) := (binOp_float_cmp_lss _ _ _ _).trans (by rw [fmt64, hl])
  rw [hl] at H
  rw [← H]
  clear H hl
  have na := nan_any a ha w
  have nb := nan_any b hb w
  cases l <;> cases k1 : nanB a <;> cases k2 : nanB b <;>
  · rw [k1] at na
    rw [k2] at nb
    go_enter Try.func7, Try.ntmps7
    go_wp2_with (first | (go_at_call 18; refine nb.mono ?_; rintro e w' ⟨rfl, rfl⟩) | (go_at_call 18; refine na.mono ?_; rintro e w' ⟨rfl, rfl⟩))
    go_ret
    exact ⟨rfl, rfl⟩
end Go.Proofs.Ytfkkciepbmijaab
