/-
  CostOrders, CostAdds: the laws' functions, walked.
-/
import Derived.Test.YtfkkciepbmijaaaAwake
namespace Go.Proofs.Ytfkkciepbmijaaa
open Go.ChangeShapes Go.WideShapes Go.ChangeAt Go.RowKit
set_option linter.unusedVariables false

theorem awake_in (w : World) : ∀ u, Below w.heap.size w u → Calls Try.prog 14 #[] u fun e w' => e = .returned (.bool true) ∧ Below w.heap.size w w' := fun u k => (awake_any u).mono fun e w' ⟨h1, h2⟩ => ⟨h1, btr k h2 (Nat.le_refl _)⟩
set_option maxRecDepth 20000 in
set_option maxHeartbeats 4000000 in
theorem orders_nat (a b : Nat) (w : World) (ha : a < 2 ^ 64) (hb : b < 2 ^ 64) : Calls Try.prog 3 #[.int .u64 (a : Int), .int .u64 (b : Int)] w fun e w' => e = .returned (.bool true) ∧ Below w.heap.size w w' := by
  have HA : Hid (a < 2 ^ 64) := ha
  have HB : Hid (b < 2 ^ 64) := hb
  have HAw : Hid (∀ u, Below w.heap.size w u → Calls Try.prog 14 #[] u fun e w' => e = .returned (.bool true) ∧ Below w.heap.size w w') := awake_in w
  have HR : Hid (∀ x u, x < 2 ^ 64 → Calls Try.prog 10 #[.float .f64 x] u fun e w' => e = .returned (.bool (rightB x)) ∧ w' = u) := (show ∀ x u, _ from fun x u h => right_any x h u)
  have HRR : Hid (∀ (x : Nat) u, x < 2 ^ 64 → Calls Try.prog 11 #[.int .u64 (x : Int)] u fun e w' => e = .returned (.bool (rightB x)) ∧ w' = u) := (show ∀ (x : Nat) u, _ from fun x u h => rright_any x h u)
  have HL : Hid (∀ x y u, x < 2 ^ 64 → y < 2 ^ 64 → Calls Try.prog 12 #[.float .f64 x, .float .f64 y] u fun e w' => e = .returned (.bool (lessB x y)) ∧ w' = u) := (show ∀ x y u, _ from fun x y u h1 h2 => less_any x y h1 h2 u)
  have HRL : Hid (∀ (x y : Nat) u, x < 2 ^ 64 → y < 2 ^ 64 → Calls Try.prog 13 #[.int .u64 (x : Int), .int .u64 (y : Int)] u fun e w' => e = .returned (.bool (lessB x y)) ∧ w' = u) := (show ∀ (x y : Nat) u, _ from fun x y u h1 h2 => rless_any x y h1 h2 u)
  have hf := fun (n : Nat) w => from_run n w
  clear ha hb
  go_enter Try.func3, Try.ntmps3
  go_wp2_with (first
    | (go_at_call 10; refine (HR.out _ _ (by first | exact HA.out | exact HB.out)).mono ?_; rintro r u ⟨rfl, z⟩; obtain rfl : w = u := z.symm; clear z)
    | (go_at_call 11; refine (HRR.out _ _ (by first | exact HA.out | exact HB.out)).mono ?_; rintro r u ⟨rfl, z⟩; obtain rfl : w = u := z.symm; clear z)
    | (go_at_call 12; refine (HL.out _ _ _ (by first | exact HA.out | exact HB.out) (by first | exact HA.out | exact HB.out)).mono ?_; rintro r u ⟨rfl, z⟩; obtain rfl : w = u := z.symm; clear z)
    | (go_at_call 13; refine (HRL.out _ _ _ (by first | exact HA.out | exact HB.out) (by first | exact HA.out | exact HB.out)).mono ?_; rintro r u ⟨rfl, z⟩; obtain rfl : w = u := z.symm; clear z)
    | (go_at_call 14; refine (HAw.out _ (by first | exact Below.refl _ _ | go_grown)).mono ?_; rintro r u ⟨rfl, hb⟩; have HB2 : Hid (Below w.heap.size w u) := hb; clear hb))
  go_ret
  exact ⟨rfl, HB2.out⟩
theorem orders_walk (a b : Int) (w : World) (ha : 0 ≤ a ∧ a < 18446744073709551616) (hb : 0 ≤ b ∧ b < 18446744073709551616) : Calls Try.prog 3 #[.int .u64 a, .int .u64 b] w fun e w' => e = .returned (.bool true) ∧ Below w.heap.size w w' := by
  obtain ⟨n, rfl⟩ : ∃ n : Nat, a = (n : Int) := ⟨a.toNat, by omega⟩
  obtain ⟨m, rfl⟩ : ∃ m : Nat, b = (m : Int) := ⟨b.toNat, by omega⟩
  exact orders_nat n m w (by omega) (by omega)
set_option maxRecDepth 20000 in
set_option maxHeartbeats 4000000 in
theorem adds_nat (a b : Nat) (w : World) (ha : a < 2 ^ 64) (hb : b < 2 ^ 64) : Calls Try.prog 4 #[.int .u64 (a : Int), .int .u64 (b : Int)] w fun e w' => e = .returned (.bool true) ∧ Below w.heap.size w w' := by
  have HAw : Hid (∀ u, Below w.heap.size w u → Calls Try.prog 14 #[] u fun e w' => e = .returned (.bool true) ∧ Below w.heap.size w w') := awake_in w
  have HL : Hid (∀ u, Calls Try.prog 15 #[.float .f64 a, .float .f64 b] u fun e w' => e = .returned (.float .f64 (addB a b)) ∧ w' = u) := (show ∀ u, _ from fun u => add_any a b ha hb u)
  have HRL : Hid (∀ u, Calls Try.prog 17 #[.int .u64 (a : Int), .int .u64 (b : Int)] u fun e w' => e = .returned (.int .u64 (addB a b : Nat)) ∧ w' = u) := (show ∀ u, _ from fun u => radd_any a b ha hb u)
  have hf := fun (n : Nat) w => from_run n w
  have hg := fun (n : Nat) w => bits_run n w
  clear ha hb
  generalize addB a b = c at *
  go_enter Try.func4, Try.ntmps4
  go_wp2_with (first
    | (go_at_call 15; refine (HL.out _).mono ?_; rintro r u ⟨rfl, z⟩; obtain rfl : w = u := z.symm; clear z)
    | (go_at_call 17; refine (HRL.out _).mono ?_; rintro r u ⟨rfl, z⟩; obtain rfl : w = u := z.symm; clear z)
    | (go_at_call 14; refine (HAw.out _ (by first | exact Below.refl _ _ | go_grown)).mono ?_; rintro r u ⟨rfl, hb⟩; have HB2 : Hid (Below w.heap.size w u) := hb; clear hb))
  go_ret
  exact ⟨rfl, HB2.out⟩
theorem adds_walk (a b : Int) (w : World) (ha : 0 ≤ a ∧ a < 18446744073709551616) (hb : 0 ≤ b ∧ b < 18446744073709551616) : Calls Try.prog 4 #[.int .u64 a, .int .u64 b] w fun e w' => e = .returned (.bool true) ∧ Below w.heap.size w w' := by
  obtain ⟨n, rfl⟩ : ∃ n : Nat, a = (n : Int) := ⟨a.toNat, by omega⟩
  obtain ⟨m, rfl⟩ : ∃ m : Nat, b = (m : Int) := ⟨b.toNat, by omega⟩
  exact adds_nat n m w (by omega) (by omega)
end Go.Proofs.Ytfkkciepbmijaaa
