/-
  Numbers of bytes, the highest one first: the plain mathematics (nothing of the program).
-/
import Derived.Test.YtmlonfchbkmbcabDoorGPut
import Derived.Laws.BitsLemmas
namespace Go.Proofs.YtmlonfchbkmbcabDoor.Fr

/-- One byte more: 'n<<8 | uint64(c)'. -/
def stepN (v : Int) (c : UInt8) : Int := bits .or .u64 (IntKind.u64.wrap (v * 256)) (IntKind.u64.wrap (c.toNat : Int))
def numOf (l : List UInt8) : Int := l.foldl stepN 0

theorem wraps_u64 (n : Int) (h₀ : 0 ≤ n) (h₁ : n < 2 ^ 64) : IntKind.u64.wrap n = n := by rw [IntKind.wrap_u64]; omega

theorem stepN_eq (v : Int) (c : UInt8) (h0 : 0 ≤ v) (h1 : v < 72057594037927936) : stepN v c = v * 256 + (c.toNat : Int) := by
  have hc : (c.toNat : Int) < 256 := by have := c.toNat_lt; omega
  unfold stepN
  rw [wraps_u64 _ (by omega) (by omega), wraps_u64 _ (by omega) (by omega)]
  exact bits_join .u64 64 (by decide) wraps_u64 8 _ _ (by omega) (by omega) (by omega) (by omega) (by omega) (by omega)

theorem numOf_snoc (l : List UInt8) (c : UInt8) : numOf (l ++ [c]) = stepN (numOf l) c := by simp [numOf]

/-- The bytes of a number are its number. -/
theorem numOf_pieces : ∀ (k : Nat) (n : Int), k ≤ 8 → 0 ≤ n → n < 256 ^ k → numOf ((pieces n k).map fun n => UInt8.ofNat n.toNat) = n
  | 0, n, _, h0, h1 => by
    have : n = 0 := by simp at h1; omega
    subst this; rfl
  | k + 1, n, hk, h0, h1 => by
    have hd : n / 256 < 256 ^ k := by
      apply Int.ediv_lt_of_lt_mul (by omega)
      rw [Int.pow_succ] at h1; exact h1
    have ih := numOf_pieces k (n / 256) (by omega) (by omega) hd
    have hb : (256 : Int) ^ k ≤ 72057594037927936 := by
      have h := Nat.pow_le_pow_right (show 0 < 256 by decide) (show k ≤ 7 by omega)
      have h2 : ((256 ^ k : Nat) : Int) ≤ 72057594037927936 := by omega
      rwa [Int.natCast_pow] at h2
    simp only [pieces, List.map_append, List.map_cons, List.map_nil, numOf_snoc, ih]
    rw [stepN_eq _ _ (by omega) (by omega), UInt8.toNat_ofNat']
    omega

theorem pieces_length : ∀ (k : Nat) (n : Int), (pieces n k).length = k
  | 0, _ => rfl
  | k + 1, n => by simp [pieces, pieces_length k]

theorem take_snoc (s : ByteArray) (k : Nat) (h : k < s.size) : s.data.toList.take (k + 1) = s.data.toList.take k ++ [s[k]] := by
  rw [List.take_succ_eq_append_getElem (by simpa using h)]; rfl

theorem numOf_take (s : ByteArray) (k : Nat) (h : k < s.size) : numOf (s.data.toList.take (k + 1)) = stepN (numOf (s.data.toList.take k)) s[k] := by
  rw [take_snoc s k h, numOf_snoc]
end Go.Proofs.YtmlonfchbkmbcabDoor.Fr
