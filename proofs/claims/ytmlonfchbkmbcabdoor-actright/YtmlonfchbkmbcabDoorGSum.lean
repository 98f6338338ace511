/-
  What the functions of package sum do, as contracts: a world stays as it is.
-/
import Derived.Test.YtmlonfchbkmbcabDoorGMath
import Derived.WalkKit
import Derived.ProofKit
import Derived.OpenShut
import Derived.Handy
namespace Go.Proofs.YtmlonfchbkmbcabDoor.Fr
open Go.ChangeShapes Go.WideShapes Go.ChangeAt Go.RowKit

theorem ret_int {k : IntKind} {a b : Int} (h : a = b) : Ending.returned (.int k a) = .returned (.int k b) := by rw [h]
theorem ret_bool {a b : Bool} (h : a = b) : Ending.returned (.bool a) = .returned (.bool b) := by rw [h]

theorem fold_u64 (k : Nat) (h : k < 2 ^ 64) : IntKind.u64.wrap (bits BinOp.and IntKind.u64 (k : Int) 65535 + (k : Int) / 65536) = ((k % 65536 + k / 65536 : Nat) : Int) := by
  rw [and_65535_u64 _ (by omega) (by omega), wraps_u64 _ (by omega) (by omega)]; omega

set_option maxHeartbeats 400000 in
theorem round_any (n : Nat) (w : World) (h : n < 2 ^ 64) :
    Calls Tryd.prog 55 #[.int .u64 n] w fun x w' => x = .returned (.int .i64 (rnd n)) ∧ w' = w := by
  go_enter Tryd.func55, Tryd.ntmps55
  go_wp2
  go_loop [0] (fun v => ∃ k : Nat, k < 2 ^ 64 ∧ rnd k = rnd n ∧ v = .int .u64 k) (fun v => (intOf v).toNat)
  case atStart => exact ⟨n, h, rfl, rfl⟩
  case round =>
    obtain ⟨k, hk, hr, rfl⟩ := hrel
    by_cases hlt : 65535 < k
    · go_wp2
      go_round
      case rel => exact ⟨k % 65536 + k / 65536, by omega, by rw [rnd_step k (by omega), hr], by rw [fold_u64 k hk]⟩
      case measure => rw [fold_u64 k hk]; simp only [intOf]; omega
    · go_wp2
      go_ret
      exact ⟨ret_int (by rw [← hr, rnd_small k (by omega)]), rfl⟩

/-- The pairs' sum of a text's first k bytes. -/
theorem psum_take (s : ByteArray) (k : Nat) (h : k < s.size) :
    psum true (s.data.toList.take (k + 1)) = psum true (s.data.toList.take k) + (if k % 2 = 0 then 256 * s[k].toNat else s[k].toNat) := by
  have hk : k < s.data.toList.length := by simpa using h
  rw [List.take_succ_eq_append_getElem hk, psum_append, List.length_take, Nat.min_eq_left (Nat.le_of_lt hk), psum_cons]
  rcases Nat.mod_two_eq_zero_or_one k with e | e <;> rw [e] <;> simp [psum] <;> rfl

theorem psum_take_le (s : ByteArray) (k : Nat) : psum true (s.data.toList.take k) ≤ 65280 * k := by
  have h := psum_le (s.data.toList.take k) true
  have := List.length_take_le k s.data.toList
  omega

theorem wr_hi (a : Nat) (c : UInt8) (h : a ≤ 100000000000) : IntKind.u64.wrap ((a : Int) + IntKind.u64.wrap (IntKind.u64.wrap (c.toNat : Int) * 256)) = ((a + 256 * c.toNat : Nat) : Int) := by
  have hc := c.toNat_lt
  rw [wraps_u64 (c.toNat : Int) (by omega) (by omega), wraps_u64 ((c.toNat : Int) * 256) (by omega) (by omega), wraps_u64 _ (by omega) (by omega)]; omega
theorem wr_lo (a : Nat) (c : UInt8) (h : a ≤ 100000000000) : IntKind.u64.wrap ((a : Int) + IntKind.u64.wrap (c.toNat : Int)) = ((a + c.toNat : Nat) : Int) := by
  have hc := c.toNat_lt
  rw [wraps_u64 (c.toNat : Int) (by omega) (by omega), wraps_u64 _ (by omega) (by omega)]; omega

set_option maxHeartbeats 400000 in
theorem pairs_any (s : ByteArray) (w : World) (hs : s.size ≤ 1000000) :
    Calls Tryd.prog 56 #[.string s] w fun x w' => x = .returned (.int .u64 (psum true s.data.toList)) ∧ w' = w := by
  go_enter Tryd.func56, Tryd.ntmps56
  go_wp2
  go_loop [3, 8] (fun n i => ∃ k : Nat, k ≤ s.size ∧ i = .int .i64 k ∧ n = .int .u64 (psum true (s.data.toList.take k))) (fun _ i => s.size - (intOf i).toNat)
  case atStart => exact ⟨0, Nat.zero_le _, rfl, rfl⟩
  case round =>
    obtain ⟨k, hk, rfl, rfl⟩ := hrel
    by_cases hlt : k < s.size
    · have HS : Hid (psum true (s.data.toList.take (k + 1)) = psum true (s.data.toList.take k) + (if k % 2 = 0 then 256 * s[k].toNat else s[k].toNat)) := psum_take s k hlt
      have HB : Hid (psum true (s.data.toList.take k) ≤ 65280 * k) := psum_take_le s k
      rcases Nat.mod_two_eq_zero_or_one k with he | he
      · go_wp2
        go_round
        case rel => exact ⟨k + 1, by omega, by go_num, by rw [HS.out, if_pos he, wr_hi _ _ (by have := HB.out; omega)]⟩
        case measure => simp [intOf]; omega
      · go_wp2
        go_round
        case rel => exact ⟨k + 1, by omega, by go_num, by rw [HS.out, if_neg (by omega), wr_lo _ _ (by have := HB.out; omega)]⟩
        case measure => simp [intOf]; omega
    · go_wp2
      go_ret
      exact ⟨ret_int (by rw [List.take_of_length_le (by simp; omega)]), rfl⟩

/-- The check sum of a text. -/
def sumV (l : List UInt8) : Nat := 65535 - rnd (psum true l)
theorem sumV_eq (l : List UInt8) : (65535 : Int) - (rnd (psum true l) : Int) = (sumV l : Int) := by have := rnd_le (psum true l); unfold sumV; omega
theorem psum_lt (s : ByteArray) (hs : s.size ≤ 1000000) : psum true s.data.toList < 2 ^ 64 := by
  have h := psum_le s.data.toList true
  have e : s.data.toList.length = s.size := by simp
  omega

set_option maxHeartbeats 400000 in
theorem sum_any (s : ByteArray) (w : World) (hs : s.size ≤ 1000000) :
    Calls Tryd.prog 37 #[.string s] w fun x w' => x = .returned (.int .i64 (sumV s.data.toList)) ∧ w' = w := by
  have HP : Hid (psum true s.data.toList < 2 ^ 64) := psum_lt s hs
  have HR : Hid (rnd (psum true s.data.toList) ≤ 65535) := rnd_le _
  go_enter Tryd.func37, Tryd.ntmps37
  go_wp2_with fail
  refine (pairs_any s _ hs).mono ?_
  rintro x w1 ⟨rfl, rfl⟩
  go_wp2_with fail
  refine (round_any _ _ HP.out).mono ?_
  rintro x w1 ⟨rfl, rfl⟩
  have hr := HR.out
  go_wp2_with fail
  go_ret
  exact ⟨ret_int (sumV_eq _), rfl⟩


end Go.Proofs.YtmlonfchbkmbcabDoor.Fr
