/-
  Bits of numbers of 64 bits: the plain mathematics (nothing of the program).
-/
import Derived.Laws.BitsLemmas
namespace Go.Proofs.YtoklgdpdeghkpaaGreatDoor

theorem wrap_u (n : Int) : IntKind.u64.wrap n = n % 18446744073709551616 := by simp [IntKind.wrap, IntKind.bits, IntKind.signed]
theorem wrap_nat (b : BitVec 64) : IntKind.u64.wrap (b.toNat : Int) = (b.toNat : Int) := by rw [wrap_u]; have := b.isLt; omega
abbrev bv (x : Int) : BitVec 64 := BitVec.ofInt 64 x
theorem bv_nat (b : BitVec 64) : bv (b.toNat : Int) = b := by
  apply BitVec.eq_of_toNat_eq
  rw [BitVec.toNat_ofInt]
  have := b.isLt
  omega
theorem nat_bv (x : Int) (h0 : 0 ≤ x) (h1 : x < 18446744073709551616) : ((bv x).toNat : Int) = x := by
  rw [BitVec.toNat_ofInt]
  omega
theorem u_and (x y : Int) : bits .and .u64 x y = ((bv x &&& bv y).toNat : Int) := wrap_nat _
theorem u_xor (x y : Int) : bits .xor .u64 x y = ((bv x ^^^ bv y).toNat : Int) := wrap_nat _
theorem u_not (x y : Int) : bits .andNot .u64 x y = ((bv x &&& ~~~bv y).toNat : Int) := wrap_nat _
theorem nat_inj {a b : BitVec 64} (h : (a.toNat : Int) = (b.toNat : Int)) : a = b := BitVec.eq_of_toNat_eq (by omega)
theorem and_iff (x y z : Int) (h0 : 0 ≤ z) (h1 : z < 18446744073709551616) : bits .and .u64 x y = z ↔ bv x &&& bv y = bv z := by
  rw [u_and]
  constructor
  · intro h
    apply nat_inj
    rw [h, nat_bv z h0 h1]
  · intro h
    rw [h, nat_bv z h0 h1]
theorem bv_ext {a b : BitVec 64} (h : ∀ i, a.getLsbD i = b.getLsbD i) : a = b := BitVec.eq_of_getLsbD_eq fun i _ => h i
theorem bit_of {a b : BitVec 64} (h : a = b) (i : Nat) : a.getLsbD i = b.getLsbD i := by rw [h]
theorem not_iff (v m : Int) (h0 : 0 ≤ v) (h1 : v < 18446744073709551616) : bits .andNot .u64 v m = 0 ↔ bits .and .u64 v m = v := by
  rw [and_iff v m v h0 h1, u_not]
  constructor
  · intro h
    have h' : bv v &&& ~~~bv m = 0#64 := BitVec.eq_of_toNat_eq (by simpa using h)
    apply bv_ext
    intro i
    have := bit_of h' i
    by_cases hi : i < 64
    · simp [hi] at this ⊢
      exact this
    · rw [BitVec.getLsbD_of_ge _ _ (by omega), BitVec.getLsbD_of_ge _ _ (by omega)]
  · intro h
    have h' : bv v &&& ~~~bv m = 0#64 := by
      apply bv_ext
      intro i
      have := bit_of h i
      by_cases hi : i < 64
      · simp [hi] at this ⊢
        exact this
      · rw [BitVec.getLsbD_of_ge _ _ (by omega), BitVec.getLsbD_of_ge _ _ (by omega)]
    rw [h']
    rfl
/-- A value that has no bits beside its mask is no greater. -/
theorem le_of_and (v m : Int) (g0 : 0 ≤ m) (g1 : m < 18446744073709551616) (h : bits .and .u64 v m = v) : v ≤ m := by
  rw [u_and, BitVec.toNat_and] at h
  have := nat_bv m g0 g1
  have := Nat.and_le_right (n := (bv v).toNat) (m := (bv m).toNat)
  omega
theorem and_range (x y : Int) : 0 ≤ bits .and .u64 x y ∧ bits .and .u64 x y < 18446744073709551616 := by
  rw [u_and]
  have := (bv x &&& bv y).isLt
  omega
/-- What passes a test that asks for more passes one that asks for less. -/
theorem and_cover (g um uv tm tv : Int) (a0 : 0 ≤ tv) (a1 : tv < 18446744073709551616) (b0 : 0 ≤ tm) (b1 : tm < 18446744073709551616) (c0 : 0 ≤ uv) (c1 : uv < 18446744073709551616)
    (h1 : bits .and .u64 um tm = tm) (h2 : bits .and .u64 uv tm = tv) (h3 : bits .and .u64 g um = uv) : bits .and .u64 g tm = tv := by
  rw [and_iff _ _ _ b0 b1] at h1
  rw [and_iff _ _ _ a0 a1] at h2 ⊢
  rw [and_iff _ _ _ c0 c1] at h3
  rw [← h2, ← h3, BitVec.and_assoc, h1]
/-- Two tests that one number passes ask for no bit to be two. -/
theorem and_meet (g um uv tm tv : Int) (a0 : 0 ≤ tv) (a1 : tv < 18446744073709551616) (c0 : 0 ≤ uv) (c1 : uv < 18446744073709551616)
    (h2 : bits .and .u64 g tm = tv) (h3 : bits .and .u64 g um = uv) : bits .and .u64 (bits .and .u64 (bits .xor .u64 uv tv) um) tm = 0 := by
  rw [and_iff _ _ _ (by decide) (by decide), u_and, bv_nat, u_xor, bv_nat]
  rw [and_iff _ _ _ a0 a1] at h2
  rw [and_iff _ _ _ c0 c1] at h3
  rw [← h2, ← h3]
  apply bv_ext
  intro i
  by_cases hi : i < 64
  · simp
    cases (bv g).getLsbD i <;> cases (bv um).getLsbD i <;> cases (bv tm).getLsbD i <;> simp
  · rw [BitVec.getLsbD_of_ge _ _ (by omega), BitVec.getLsbD_of_ge _ _ (by omega)]
theorem wraps_u64 (n : Int) (h₀ : 0 ≤ n) (h₁ : n < 2 ^ 64) : IntKind.u64.wrap n = n := by rw [wrap_u]; omega
theorem and_u (j : Nat) (hj : j ≤ 64) (a : Int) (h0 : 0 ≤ a) (h1 : a < 2 ^ 64) : bits .and .u64 a (2 ^ j - 1) = a % 2 ^ j := bits_mask .u64 64 (by decide) wraps_u64 j hj a h0 h1
end Go.Proofs.YtoklgdpdeghkpaaGreatDoor
