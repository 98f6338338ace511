/-
  The document's sum: down.
-/
import Derived.Test.YtfkkciepbmijaaaRefS
namespace Go.Proofs.Ytfkkciepbmijaaa
open Go.ChangeShapes Go.WideShapes Go.ChangeAt Go.RowKit
set_option linter.unusedVariables false

theorem st_big (m d : Nat) (hm : m < 2 ^ 64) (hd : 63 < d) : st m d = if 0 < m then 1 else 0 := by
  have h1 : (2 : Nat) ^ 64 ≤ 2 ^ d := Nat.pow_le_pow_right (by omega) (by omega)
  have h2 : m < 2 ^ d := Nat.lt_of_lt_of_le hm h1
  unfold st
  rw [Nat.div_eq_of_lt h2, Nat.mod_eq_of_lt h2]
  by_cases h : 0 < m
  · rw [if_pos ⟨by omega, rfl⟩, if_pos h]
  · rw [if_neg (fun g => g.1 (by omega)), if_neg h]
set_option maxHeartbeats 2000000 in
theorem down_any (m d : Nat) (hm : m < 2 ^ 64) (hd : d < 2 ^ 63) (w : World) : Calls Try.prog 31 #[.int .u64 m, .int .u64 d] w fun e w' => e = .returned (.int .u64 (st m d : Nat)) ∧ w' = w := by
  by_cases h1 : (63 : Int) < (d : Int)
  · rw [st_big m d hm (by omega)]
    by_cases h2 : (0 : Int) < (m : Int)
    · rw [if_pos (by omega)]
      go_enter Try.func31, Try.ntmps31
      go_wp2
      go_ret
      exact ⟨rfl, rfl⟩
    · rw [if_neg (by omega)]
      go_enter Try.func31, Try.ntmps31
      go_wp2
      go_ret
      exact ⟨rfl, rfl⟩
  · have hmin : min d 64 = d := by omega
    have hp : 0 < 2 ^ d := Nat.two_pow_pos _
    have hq : (m : Int) / 2 ^ d = ((m / 2 ^ d : Nat) : Int) := by simp
    have hle : m / 2 ^ d * 2 ^ d ≤ m := Nat.div_mul_le_self _ _
    have hb : ((m / 2 ^ d : Nat) : Int) * 2 ^ d = ((m / 2 ^ d * 2 ^ d : Nat) : Int) := by simp
    have hw : IntKind.u64.wrap (((m / 2 ^ d : Nat) : Int) * 2 ^ d) = ((m / 2 ^ d * 2 ^ d : Nat) : Int) := by rw [hb]; exact wr_u64 _ (by omega) (by omega)
    have hz : (m % 2 ^ d ≠ 0) ↔ m / 2 ^ d * 2 ^ d ≠ m := by
      have := Nat.div_add_mod m (2 ^ d)
      rw [Nat.mul_comm] at this
      omega
    have hr : ((m / 2 ^ d : Nat) : Int) % 2 = ((m / 2 ^ d % 2 : Nat) : Int) := by omega
    have hql : m / 2 ^ d ≤ m := Nat.div_le_self _ _
    unfold st
    obtain ⟨q, hqq⟩ : ∃ q, m / 2 ^ d = q := ⟨_, rfl⟩
    rw [hqq] at hq hle hb hw hz hr hql ⊢
    obtain ⟨b, hbb⟩ : ∃ b, q * 2 ^ d = b := ⟨_, rfl⟩
    rw [hbb] at hle hb hw hz
    clear hb hp hqq hbb
    by_cases c1 : b = m
    · have x1 : ((b : Int) == (m : Int)) = true := beq_iff_eq.2 (by omega)
      rw [if_neg (fun g => (hz.1 g.1) c1)]
      clear hz
      subst c1
      go_enter Try.func31, Try.ntmps31
      go_wp2
      go_ret
      exact ⟨rfl, rfl⟩
    · have x1 : ((b : Int) == (m : Int)) = false := beq_eq_false_iff_ne.2 (by omega)
      have x1' : ¬ (b : Int) = (m : Int) := by omega
      by_cases c2 : q % 2 = 0
      · have x2 : (((q % 2 : Nat) : Int) == 0) = true := beq_iff_eq.2 (by omega)
        have x3 : IntKind.u64.wrap ((q : Int) + 1) = ((q + 1 : Nat) : Int) := by rw [wr_u64 _ (by omega) (by omega)]; omega
        rw [if_pos ⟨hz.2 c1, c2⟩]
        clear hz
        rw [c2] at hr
        clear x2 c2
        go_enter Try.func31, Try.ntmps31
        go_wp2
        go_ret
        exact ⟨rfl, rfl⟩
      · have x2 : (((q % 2 : Nat) : Int) == 0) = false := beq_eq_false_iff_ne.2 (by omega)
        have c3 : q % 2 = 1 := by omega
        rw [if_neg (fun g => c2 g.2)]
        clear hz
        rw [c3] at hr
        clear x2 c2 c3
        go_enter Try.func31, Try.ntmps31
        go_wp2
        go_ret
        exact ⟨rfl, rfl⟩
end Go.Proofs.Ytfkkciepbmijaaa
