/-
  The document's sum: down.
-/
import Derived.Test.YtfkkciepbmijaabRefS
namespace Go.Proofs.Ytfkkciepbmijaab
open Go.ChangeShapes Go.WideShapes Go.ChangeAt Go.RowKit
set_option linter.unusedVariables false

theorem st_big (m d : Nat) (hm : m < 2 ^ 64) (hd : 63 < d) : st m d = if 0 < m then 1 else 0 := by
  have h1 : (2 : Nat) ^ 64 ≤ 2 ^ d := Nat.pow_le_pow_right (by omega) (by omega)
  have h2 : m < 2 ^ d := Nat.lt_of_lt_of_le hm h1
  unfold st
  rw [Nat.div_eq_of_lt h2, Nat.mod_eq_of_lt h2]
  by_cases h : 0 < m
  · rw [if_pos ⟨by omega, rfl⟩, if_pos h]
  · rw [if_neg (fun g => g.1 (by omega)), if_neg h]
end Go.Proofs.Ytfkkciepbmijaab
