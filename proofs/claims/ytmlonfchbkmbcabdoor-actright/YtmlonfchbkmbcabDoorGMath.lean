/-
  Round sums and pairs of bytes: the plain mathematics (nothing of the program).
-/
import Derived.Test.YtmlonfchbkmbcabDoorGNum
namespace Go.Proofs.YtmlonfchbkmbcabDoor.Fr

/-- The round sum: what a sum comes to, when its high part is added to its low one as long as there is one. -/
def rnd (n : Nat) : Nat := if n = 0 then 0 else (n - 1) % 65535 + 1

theorem rnd_step (n : Nat) (h : 65536 ≤ n) : rnd (n % 65536 + n / 65536) = rnd n := by
  unfold rnd; rw [if_neg (by omega), if_neg (by omega)]; omega
theorem rnd_small (n : Nat) (h : n < 65536) : rnd n = n := by unfold rnd; split <;> omega
theorem rnd_le (n : Nat) : rnd n ≤ 65535 := by unfold rnd; split <;> omega
theorem rnd_left (a b : Nat) : rnd (rnd a + b) = rnd (a + b) := by unfold rnd; (repeat' split) <;> omega
theorem rnd_right (a b : Nat) : rnd (a + rnd b) = rnd (a + b) := by rw [Nat.add_comm, rnd_left, Nat.add_comm]
/-- Two numbers have the same round sum, if both are 0 or neither is, and they leave the same by 65535. -/
theorem rnd_same (a b : Nat) (h : a % 65535 = b % 65535) (h0 : a = 0 ↔ b = 0) : rnd a = rnd b := by
  unfold rnd; (repeat' split) <;> omega

def exch (n : Nat) : Nat := n % 256 * 256 + n / 256
theorem rnd_exch (b x : Nat) : rnd (x + exch (rnd b)) = rnd (x + 256 * b) := by
  have h1 := rnd_le b
  have : exch (rnd b) % 65535 = (256 * b) % 65535 := by unfold exch rnd at *; split <;> omega
  have h0 : rnd b = 0 ↔ b = 0 := by unfold rnd; split <;> omega
  have h2 : exch (rnd b) = 0 ↔ rnd b = 0 := by unfold exch; omega
  apply rnd_same <;> omega

/-- The sum of a text's pairs; 'hi' tells whether the first byte is a high one. -/
def psum : Bool → List UInt8 → Nat
  | _, [] => 0
  | true, b :: l => 256 * b.toNat + psum false l
  | false, b :: l => b.toNat + psum true l

theorem psum_cons (h : Bool) (b : UInt8) (l : List UInt8) : psum h (b :: l) = (if h then 256 * b.toNat else b.toNat) + psum (!h) l := by
  cases h <;> rfl
theorem psum_append (l m : List UInt8) : ∀ h, psum h (l ++ m) = psum h l + psum (xor h (l.length % 2 == 1)) m := by
  induction l with
  | nil => intro h; simp [psum]
  | cons b l ih =>
    intro h
    have e : xor (!h) (l.length % 2 == 1) = xor h ((l.length + 1) % 2 == 1) := by
      rcases Nat.mod_two_eq_zero_or_one l.length with e | e
      · have : (l.length + 1) % 2 = 1 := by omega
        rw [e, this]; cases h <;> rfl
      · have : (l.length + 1) % 2 = 0 := by omega
        rw [e, this]; cases h <;> rfl
    rw [List.cons_append, psum_cons, psum_cons, ih, List.length_cons, e, Nat.add_assoc]

theorem psum_le (l : List UInt8) : ∀ h, psum h l ≤ 65280 * l.length := by
  induction l with
  | nil => intro h; simp [psum]
  | cons b l ih =>
    intro h
    have := ih (!h)
    have hb := b.toNat_lt
    rw [psum_cons, List.length_cons]
    split <;> omega
/-- The pairs of the other order are 256 of the pairs, by 65535. -/
theorem psum_other (l : List UInt8) : psum false l % 65535 = 256 * psum true l % 65535 ∧ psum true l % 65535 = 256 * psum false l % 65535 ∧ (psum false l = 0 ↔ psum true l = 0) := by
  induction l with
  | nil => simp [psum]
  | cons b l ih =>
    obtain ⟨a, c, d⟩ := ih
    simp only [psum]
    omega

theorem wraps_i64 (n : Int) (h₀ : 0 ≤ n) (h₁ : n < 2 ^ 63) : IntKind.i64.wrap n = n := by rw [IntKind.wrap_i64]; omega
/-- The lowest bits of any number. -/
theorem and_mask_i64 (a : Int) (j : Nat) (hj : j ≤ 62) : bits .and .i64 a (2 ^ j - 1) = a % 2 ^ j := by
  have e : bits .and .i64 a (2 ^ j - 1) = bits .and .i64 (a % 2 ^ j) (2 ^ j - 1) := by
    have hp : 0 < 2 ^ j := Nat.two_pow_pos j
    have hc : ((2 : Int) ^ j - 1) = ((2 ^ j - 1 : Nat) : Int) := by
      rw [Int.natCast_sub hp]; simp
    have hl : 2 ^ j ≤ 2 ^ 62 := Nat.pow_le_pow_right (by decide) hj
    have hd : (2 : Nat) ^ j ∣ 2 ^ 64 := Nat.pow_dvd_pow 2 (by omega)
    have hn : (((a % 2 ^ 64).toNat) % 2 ^ j : Nat) = (a % 2 ^ j).toNat := by
      have h1 : ((a % 2 ^ 64).toNat : Int) = a % 2 ^ 64 := Int.toNat_of_nonneg (by omega)
      have h2 : ((a % 2 ^ j).toNat : Int) = a % 2 ^ j := Int.toNat_of_nonneg (Int.emod_nonneg _ (by exact_mod_cast Nat.pos_iff_ne_zero.mp hp))
      apply Int.ofNat_inj.mp
      rw [Int.natCast_emod, h1, h2]
      have : ((2 ^ j : Nat) : Int) = (2 : Int) ^ j := by simp
      rw [this]
      exact Int.emod_emod_of_dvd _ (by exact_mod_cast hd)
    have hs : (((a % 2 ^ j) % 2 ^ 64).toNat) = (a % 2 ^ j).toNat := by
      have hj' : (2 : Int) ^ j ≤ 2 ^ 62 := by exact_mod_cast hl
      have hpz : (0 : Int) < 2 ^ j := by exact_mod_cast hp
      have h1 := Int.emod_nonneg a (show (2 : Int) ^ j ≠ 0 by omega)
      have h2 := Int.emod_lt_of_pos a hpz
      rw [Int.emod_eq_of_lt h1 (by omega)]
    have hm : (2 ^ j - 1) % 2 ^ 64 = 2 ^ j - 1 := Nat.mod_eq_of_lt (by omega)
    have hb : IntKind.i64.bits = 64 := rfl
    simp only [bits, hc, BitVec.ofInt_natCast, BitVec.toNat_and, BitVec.toNat_ofNat, BitVec.toNat_ofInt, hb]
    rw [hm]
    have q1 : (a % ((2 ^ 64 : Nat) : Int)) = a % 2 ^ 64 := by simp
    have q2 : ((a % 2 ^ j) % ((2 ^ 64 : Nat) : Int)) = (a % 2 ^ j) % 2 ^ 64 := by simp
    rw [q1, q2, hs, Nat.and_two_pow_sub_one_eq_mod, Nat.and_two_pow_sub_one_eq_mod, hn]
    congr 2
    rw [← hn, Nat.mod_mod]
  rw [e]
  have hpz : (0 : Int) < 2 ^ j := by exact_mod_cast Nat.two_pow_pos j
  have h1 := Int.emod_nonneg a (show (2 : Int) ^ j ≠ 0 by omega)
  have h2 := Int.emod_lt_of_pos a hpz
  have hj' : (2 : Int) ^ j ≤ 2 ^ 62 := by exact_mod_cast Nat.pow_le_pow_right (show 0 < 2 by decide) hj
  rw [bits_mask .i64 63 (by decide) wraps_i64 j (by omega) _ h1 (by omega), Int.emod_emod]
theorem and_65535_i64 (a : Int) : bits .and .i64 a 65535 = a % 65536 := and_mask_i64 a 16 (by decide)
theorem and_255_i64 (a : Int) : bits .and .i64 a 255 = a % 256 := and_mask_i64 a 8 (by decide)
theorem and_65535_u64 (a : Int) (h0 : 0 ≤ a) (h1 : a < 2 ^ 64) : bits .and .u64 a 65535 = a % 65536 := bits_mask .u64 64 (by decide) wraps_u64 16 (by decide) a h0 h1
end Go.Proofs.YtmlonfchbkmbcabDoor.Fr
