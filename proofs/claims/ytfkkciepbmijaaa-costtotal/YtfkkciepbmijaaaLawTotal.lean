/-
  CostTotal: the order is one; the law's function, walked.
-/
import Derived.Test.YtfkkciepbmijaaaLawOrders
namespace Go.Proofs.Ytfkkciepbmijaaa
open Go.ChangeShapes Go.WideShapes Go.ChangeAt Go.RowKit
set_option linter.unusedVariables false

/-- How three may stand to each other. -/
def okK (ab ba bc cb ac ca : Bool) : Bool := !(ab && ba) && !(bc && cb) && !(ac && ca) && (!ab || ac || cb) && (!ba || bc || ca) && (!bc || ba || ac) && (!cb || ca || ab) && (!ac || ab || bc) && (!ca || cb || ba)
theorem three (a b c : Nat) : okK (lessB a b) (lessB b a) (lessB b c) (lessB c b) (lessB a c) (lessB c a) = true := by
  unfold lessB
  generalize ky a = p
  generalize ky b = q
  generalize ky c = r
  by_cases h1 : p < q <;> by_cases h2 : q < p <;> by_cases h3 : q < r <;> by_cases h4 : r < q <;> by_cases h5 : p < r <;> by_cases h6 : r < p <;> first
    | (exfalso; omega)
    | (simp only [h1, h2, h3, h4, h5, h6, decide_true, decide_false]; rfl)
theorem less_self (a : Nat) : lessB a a = false := decide_eq_false (by omega)
set_option maxRecDepth 20000 in
set_option maxHeartbeats 16000000 in
theorem total_nat (a b c : Nat) (w : World) (ha : a < 2 ^ 64) (hb : b < 2 ^ 64) (hc : c < 2 ^ 64) : Calls Try.prog 7 #[.int .u64 (a : Int), .int .u64 (b : Int), .int .u64 (c : Int)] w fun e w' => e = .returned (.bool true) ∧ Below w.heap.size w w' := by
  have HAw : Hid (∀ u, Below w.heap.size w u → Calls Try.prog 14 #[] u fun e w' => e = .returned (.bool true) ∧ Below w.heap.size w w') := awake_in w
  have h := three a b c
  obtain ⟨ab, e1⟩ : ∃ s, lessB a b = s := ⟨_, rfl⟩
  obtain ⟨ba, e2⟩ : ∃ s, lessB b a = s := ⟨_, rfl⟩
  obtain ⟨bc, e3⟩ : ∃ s, lessB b c = s := ⟨_, rfl⟩
  obtain ⟨cb, e4⟩ : ∃ s, lessB c b = s := ⟨_, rfl⟩
  obtain ⟨ac, e5⟩ : ∃ s, lessB a c = s := ⟨_, rfl⟩
  obtain ⟨ca, e6⟩ : ∃ s, lessB c a = s := ⟨_, rfl⟩
  rw [e1, e2, e3, e4, e5, e6] at h
  have HA : Hid (a < 2 ^ 64) := ha
  have HB : Hid (b < 2 ^ 64) := hb
  have HC : Hid (c < 2 ^ 64) := hc
  have E1 : Hid (lessB a b = ab) := e1
  have E2 : Hid (lessB b a = ba) := e2
  have E3 : Hid (lessB b c = bc) := e3
  have E4 : Hid (lessB c b = cb) := e4
  have E5 : Hid (lessB a c = ac) := e5
  have E6 : Hid (lessB c a = ca) := e6
  have E7 : Hid (lessB a a = false) := less_self a
  have HL : Hid (∀ x y u, x < 2 ^ 64 → y < 2 ^ 64 → Calls Try.prog 12 #[.float .f64 x, .float .f64 y] u fun e w' => e = .returned (.bool (lessB x y)) ∧ w' = u) := (show ∀ x y u, _ from fun x y u h1 h2 => less_any x y h1 h2 u)
  have hf := fun (n : Nat) w => from_run n w
  clear ha hb hc e1 e2 e3 e4 e5 e6
  cases ab <;> cases ba <;> cases bc <;> cases cb <;> cases ac <;> cases ca <;> first
  | exact absurd h (by decide)
  | skip
  all_goals
    go_enter Try.func7, Try.ntmps7
    go_wp2_with (first
      | (go_at_call 12; refine (HL.out _ _ _ (by first | exact HA.out | exact HB.out | exact HC.out) (by first | exact HA.out | exact HB.out | exact HC.out)).mono ?_; rintro r u ⟨hr, z⟩; obtain rfl : w = u := z.symm; clear z; (first | rw [E1.out] at hr | rw [E2.out] at hr | rw [E3.out] at hr | rw [E4.out] at hr | rw [E5.out] at hr | rw [E6.out] at hr | rw [E7.out] at hr); subst hr)
      | (go_at_call 14; refine (HAw.out _ (by first | exact Below.refl _ _ | go_grown)).mono ?_; rintro r u ⟨rfl, hb⟩; have HB2 : Hid (Below w.heap.size w u) := hb; clear hb))
    go_ret
    exact ⟨rfl, HB2.out⟩
theorem total_walk (a b c : Int) (w : World) (ha : 0 ≤ a ∧ a < 18446744073709551616) (hb : 0 ≤ b ∧ b < 18446744073709551616) (hc : 0 ≤ c ∧ c < 18446744073709551616) : Calls Try.prog 7 #[.int .u64 a, .int .u64 b, .int .u64 c] w fun e w' => e = .returned (.bool true) ∧ Below w.heap.size w w' := by
  obtain ⟨n, rfl⟩ : ∃ n : Nat, a = (n : Int) := ⟨a.toNat, by omega⟩
  obtain ⟨m, rfl⟩ : ∃ m : Nat, b = (m : Int) := ⟨b.toNat, by omega⟩
  obtain ⟨k, rfl⟩ : ∃ k : Nat, c = (k : Int) := ⟨c.toNat, by omega⟩
  exact total_nat n m k w (by omega) (by omega) (by omega)
end Go.Proofs.Ytfkkciepbmijaaa
