/-
  What the functions of package sum do, as contracts: a world stays as it is.
-/
import Derived.Test.YthjkliblkfkcpaaMath
import Derived.WalkKit
import Derived.ProofKit
import Derived.OpenShut
import Derived.Handy
namespace Go.Proofs.Ythjkliblkfkcpaa
open Go.ChangeShapes Go.WideShapes Go.ChangeAt Go.RowKit

theorem ret_int {k : IntKind} {a b : Int} (h : a = b) : Ending.returned (.int k a) = .returned (.int k b) := by rw [h]
theorem ret_bool {a b : Bool} (h : a = b) : Ending.returned (.bool a) = .returned (.bool b) := by rw [h]

theorem fold_u64 (k : Nat) (h : k < 2 ^ 64) : IntKind.u64.wrap (bits BinOp.and IntKind.u64 (k : Int) 65535 + (k : Int) / 65536) = ((k % 65536 + k / 65536 : Nat) : Int) := by
  rw [and_65535_u64 _ (by omega) (by omega), wraps_u64 _ (by omega) (by omega)]; omega

set_option maxHeartbeats 400000 in
theorem round_any (n : Nat) (w : World) (h : n < 2 ^ 64) :
    Calls Try.prog 15 #[.int .u64 n] w fun x w' => x = .returned (.int .i64 (rnd n)) ∧ w' = w := by
  go_enter Try.func15, Try.ntmps15
  go_wp2
  go_loop [0] (fun v => ∃ k : Nat, k < 2 ^ 64 ∧ rnd k = rnd n ∧ v = .int .u64 k) (fun v => (intOf v).toNat)
  case atStart => exact ⟨n, h, rfl, rfl⟩
  case round =>
    obtain ⟨k, hk, hr, rfl⟩ := hrel
    by_cases hlt : 65535 < k
    · go_wp2
      go_round
      case rel => exact ⟨k % 65536 + k / 65536, by omega, by rw [rnd_step k (by omega), hr], by rw [fold_u64 k hk]⟩
      case measure => rw [fold_u64 k hk]; simp only [intOf]; omega
    · go_wp2
      go_ret
      exact ⟨ret_int (by rw [← hr, rnd_small k (by omega)]), rfl⟩

/-- The pairs' sum of a text's first k bytes. -/
theorem psum_take (s : ByteArray) (k : Nat) (h : k < s.size) :
    psum true (s.data.toList.take (k + 1)) = psum true (s.data.toList.take k) + (if k % 2 = 0 then 256 * s[k].toNat else s[k].toNat) := by
  have hk : k < s.data.toList.length := by simpa using h
  rw [List.take_succ_eq_append_getElem hk, psum_append, List.length_take, Nat.min_eq_left (Nat.le_of_lt hk), psum_cons]
  rcases Nat.mod_two_eq_zero_or_one k with e | e <;> rw [e] <;> simp [psum] <;> rfl

theorem psum_take_le (s : ByteArray) (k : Nat) : psum true (s.data.toList.take k) ≤ 65280 * k := by
  have h := psum_le (s.data.toList.take k) true
  have := List.length_take_le k s.data.toList
  omega

theorem wr_hi (a : Nat) (c : UInt8) (h : a ≤ 100000000000) : IntKind.u64.wrap ((a : Int) + IntKind.u64.wrap (IntKind.u64.wrap (c.toNat : Int) * 256)) = ((a + 256 * c.toNat : Nat) : Int) := by
  have hc := c.toNat_lt
  rw [wraps_u64 (c.toNat : Int) (by omega) (by omega), wraps_u64 ((c.toNat : Int) * 256) (by omega) (by omega), wraps_u64 _ (by omega) (by omega)]; omega
theorem wr_lo (a : Nat) (c : UInt8) (h : a ≤ 100000000000) : IntKind.u64.wrap ((a : Int) + IntKind.u64.wrap (c.toNat : Int)) = ((a + c.toNat : Nat) : Int) := by
  have hc := c.toNat_lt
  rw [wraps_u64 (c.toNat : Int) (by omega) (by omega), wraps_u64 _ (by omega) (by omega)]; omega

set_option maxHeartbeats 400000 in
theorem pairs_any (s : ByteArray) (w : World) (hs : s.size ≤ 1000000) :
    Calls Try.prog 16 #[.string s] w fun x w' => x = .returned (.int .u64 (psum true s.data.toList)) ∧ w' = w := by
  go_enter Try.func16, Try.ntmps16
  go_wp2
  go_loop [3, 8] (fun n i => ∃ k : Nat, k ≤ s.size ∧ i = .int .i64 k ∧ n = .int .u64 (psum true (s.data.toList.take k))) (fun _ i => s.size - (intOf i).toNat)
  case atStart => exact ⟨0, Nat.zero_le _, rfl, rfl⟩
  case round =>
    obtain ⟨k, hk, rfl, rfl⟩ := hrel
    by_cases hlt : k < s.size
    · have HS : Hid (psum true (s.data.toList.take (k + 1)) = psum true (s.data.toList.take k) + (if k % 2 = 0 then 256 * s[k].toNat else s[k].toNat)) := psum_take s k hlt
      have HB : Hid (psum true (s.data.toList.take k) ≤ 65280 * k) := psum_take_le s k
      rcases Nat.mod_two_eq_zero_or_one k with he | he
      · go_wp2
        go_round
        case rel => exact ⟨k + 1, by omega, by go_num, by rw [HS.out, if_pos he, wr_hi _ _ (by have := HB.out; omega)]⟩
        case measure => simp [intOf]; omega
      · go_wp2
        go_round
        case rel => exact ⟨k + 1, by omega, by go_num, by rw [HS.out, if_neg (by omega), wr_lo _ _ (by have := HB.out; omega)]⟩
        case measure => simp [intOf]; omega
    · go_wp2
      go_ret
      exact ⟨ret_int (by rw [List.take_of_length_le (by simp; omega)]), rfl⟩

/-- The check sum of a text. -/
def sumV (l : List UInt8) : Nat := 65535 - rnd (psum true l)
theorem sumV_eq (l : List UInt8) : (65535 : Int) - (rnd (psum true l) : Int) = (sumV l : Int) := by have := rnd_le (psum true l); unfold sumV; omega
theorem psum_lt (s : ByteArray) (hs : s.size ≤ 1000000) : psum true s.data.toList < 2 ^ 64 := by
  have h := psum_le s.data.toList true
  have e : s.data.toList.length = s.size := by simp
  omega

set_option maxHeartbeats 400000 in
theorem sum_any (s : ByteArray) (w : World) (hs : s.size ≤ 1000000) :
    Calls Try.prog 10 #[.string s] w fun x w' => x = .returned (.int .i64 (sumV s.data.toList)) ∧ w' = w := by
  have HP : Hid (psum true s.data.toList < 2 ^ 64) := psum_lt s hs
  have HR : Hid (rnd (psum true s.data.toList) ≤ 65535) := rnd_le _
  go_enter Try.func10, Try.ntmps10
  go_wp2_with fail
  refine (pairs_any s _ hs).mono ?_
  rintro x w1 ⟨rfl, rfl⟩
  go_wp2_with fail
  refine (round_any _ _ HP.out).mono ?_
  rintro x w1 ⟨rfl, rfl⟩
  have hr := HR.out
  go_wp2_with fail
  go_ret
  exact ⟨ret_int (sumV_eq _), rfl⟩

set_option maxHeartbeats 400000 in
theorem right_any (s : ByteArray) (w : World) (hs : s.size ≤ 1000000) :
    Calls Try.prog 11 #[.string s] w fun x w' => x = .returned (.bool (sumV s.data.toList == 0)) ∧ w' = w := by
  go_enter Try.func11, Try.ntmps11
  go_wp2_with fail
  refine (sum_any s _ hs).mono ?_
  rintro x w1 ⟨rfl, rfl⟩
  go_wp2_with fail
  go_ret
  exact ⟨ret_bool (by rw [Bool.eq_iff_iff]; simp), rfl⟩

set_option maxHeartbeats 400000 in
theorem awake_any (w : World) : Calls Try.prog 8 #[] w fun x w' => x = .returned (.bool true) ∧ w' = w := by
  have H1 : Hid (sumV [0, 1, 242, 3, 244, 245, 246, 247] = 8717) := by unfold Hid; decide
  have H2 : Hid (sumV [] = 65535) := by unfold Hid; decide
  go_enter Try.func8, Try.ntmps8
  go_wp2_with fail
  refine (sum_any _ _ (by decide)).mono ?_
  rintro x w1 ⟨rfl, rfl⟩
  have h1 := H1.out
  simp only [h1]
  go_wp2_with fail
  refine (sum_any _ _ (by decide)).mono ?_
  rintro x w1 ⟨rfl, rfl⟩
  have h2 := H2.out
  simp only [h2]
  go_wp2_with fail
  go_ret
  exact ⟨rfl, rfl⟩

theorem or_exch (k : Nat) (h : k < 65536) : bits BinOp.or IntKind.i64 (wrap64 (bits BinOp.and IntKind.i64 (k : Int) 255 * 256)) ((k : Int) / 256) = (exch k : Int) := by
  rw [and_255_i64, IntWalk.wrap64_in _ (by omega), bits_join .i64 63 (by decide) wraps_i64 8 _ _ (by omega) (by omega) (by omega) (by omega) (by omega) (by omega)]
  unfold exch; omega

set_option maxHeartbeats 400000 in
theorem exchange_any (k : Nat) (w : World) (h : k < 65536) :
    Calls Try.prog 17 #[.int .i64 k] w fun x w' => x = .returned (.int .i64 (exch k)) ∧ w' = w := by
  go_enter Try.func17, Try.ntmps17
  go_wp2
  go_ret
  exact ⟨ret_int (or_exch k h), rfl⟩

/-- What is left of 65535, of a number's lowest 16 bits. -/
def neg16 (a : Int) : Nat := (65535 - a % 65536).toNat
theorem neg16_eq (a : Int) : (65535 : Int) - bits BinOp.and IntKind.i64 a 65535 = (neg16 a : Int) := by rw [and_65535_i64]; unfold neg16; omega
theorem neg16_le (a : Int) : neg16 a ≤ 65535 := by unfold neg16; omega
theorem exch_le (n : Nat) (h : n ≤ 65535) : exch n ≤ 65535 := by unfold exch; omega
def joinV (a b : Int) (odd : Bool) : Nat := 65535 - rnd (neg16 a + (if odd then exch (neg16 b) else neg16 b))

set_option maxHeartbeats 400000 in
theorem join_any (a b : Int) (odd : Bool) (w : World) :
    Calls Try.prog 12 #[.int .i64 a, .int .i64 b, .bool odd] w fun x w' => x = .returned (.int .i64 (joinV a b odd)) ∧ w' = w := by
  have ea := and_65535_i64 a
  have eb := and_65535_i64 b
  have ba : 0 ≤ bits BinOp.and IntKind.i64 a 65535 ∧ bits BinOp.and IntKind.i64 a 65535 ≤ 65535 := by omega
  have bb : 0 ≤ bits BinOp.and IntKind.i64 b 65535 ∧ bits BinOp.and IntKind.i64 b 65535 ≤ 65535 := by omega
  clear ea eb
  have HA : Hid (neg16 a ≤ 65535) := neg16_le a
  have HB : Hid (neg16 b ≤ 65535) := neg16_le b
  cases odd
  · have ej : joinV a b false = 65535 - rnd (neg16 a + neg16 b) := rfl
    rw [ej]
    have HR : Hid (rnd (neg16 a + neg16 b) ≤ 65535) := rnd_le _
    clear ej
    go_enter Try.func12, Try.ntmps12
    go_wp2_with fail
    simp only [neg16_eq, ← Int.natCast_add]
    refine (round_any _ _ (by have := HA.out; have := HB.out; omega)).mono ?_
    rintro x w1 ⟨rfl, rfl⟩
    have hr := HR.out
    go_wp2_with fail
    go_ret
    exact ⟨ret_int (by omega), rfl⟩
  · have ej : joinV a b true = 65535 - rnd (neg16 a + exch (neg16 b)) := rfl
    rw [ej]
    have HR : Hid (rnd (neg16 a + exch (neg16 b)) ≤ 65535) := rnd_le _
    have HE : Hid (exch (neg16 b) ≤ 65535) := exch_le _ (neg16_le b)
    clear ej
    go_enter Try.func12, Try.ntmps12
    go_wp2_with fail
    simp only [neg16_eq]
    refine (exchange_any _ _ (by have := HB.out; omega)).mono ?_
    rintro x w1 ⟨rfl, rfl⟩
    have ha := HA.out
    have he := HE.out
    go_wp2_with fail
    simp only [← Int.natCast_add]
    refine (round_any _ _ (by omega)).mono ?_
    rintro x w1 ⟨rfl, rfl⟩
    have hr := HR.out
    go_wp2_with fail
    go_ret
    exact ⟨ret_int (by omega), rfl⟩
end Go.Proofs.Ythjkliblkfkcpaa
