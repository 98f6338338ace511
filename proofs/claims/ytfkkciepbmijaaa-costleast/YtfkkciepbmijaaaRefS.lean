/-
  The document's sum: whole, down, Add.
-/
import Derived.Test.YtfkkciepbmijaaaRefA
namespace Go.Proofs.Ytfkkciepbmijaaa
open Go.ChangeShapes Go.WideShapes Go.ChangeAt Go.RowKit
set_option linter.unusedVariables false

set_option maxHeartbeats 1000000 in
theorem whole_any (a : Nat) (ha : a < 2 ^ 64) (w : World) : Calls Try.prog 30 #[.int .u64 a] w fun e w' => e = .returned (.tuple #[.int .u64 (whM (a % 2 ^ 63) : Nat), .int .u64 (whE (a % 2 ^ 63) : Nat)]) ∧ w' = w := by
  have hm : (a : Int) % 9223372036854775808 = ((a % 2 ^ 63 : Nat) : Int) := by omega
  have hlt : a % 2 ^ 63 < 9223372036854775808 := by omega
  obtain ⟨r, hr⟩ : ∃ r, a % 2 ^ 63 = r := ⟨_, rfl⟩
  rw [hr] at hm hlt ⊢
  clear hr
  have q1 : (r : Int) / 4503599627370496 = ((r / 2 ^ 52 : Nat) : Int) := by omega
  have q2 : (r : Int) % 4503599627370496 = ((r % 2 ^ 52 : Nat) : Int) := by omega
  unfold whM whE
  have ml : r % 2 ^ 52 < 4503599627370496 := by omega
  obtain ⟨e, he⟩ : ∃ e, r / 2 ^ 52 = e := ⟨_, rfl⟩
  obtain ⟨m, hm2⟩ : ∃ m, r % 2 ^ 52 = m := ⟨_, rfl⟩
  rw [he] at q1 ⊢
  rw [hm2] at q2 ml ⊢
  clear he hm2
  by_cases h : (e : Int) = 0
  · rw [if_pos (by omega), if_pos (by omega)]
    go_enter Try.func30, Try.ntmps30
    go_wp2
    go_ret2
    exact ⟨by first | rfl | (rw [← q2]; rfl) | (rw [← q1]; rfl), rfl⟩
  · rw [if_neg (by omega), if_neg (by omega)]
    have h' : ((e : Int) == 0) = false := beq_eq_false_iff_ne.2 h
    have w1 : IntKind.u64.wrap ((m : Int) + 4503599627370496) = ((m + 2 ^ 52 : Nat) : Int) := by rw [wr_u64 _ (by omega) (by omega)]; omega
    go_enter Try.func30, Try.ntmps30
    go_wp2
    go_ret2
    exact ⟨by first | rfl | (rw [← q2]; rfl) | (rw [← q1]; rfl), rfl⟩
end Go.Proofs.Ytfkkciepbmijaaa
