/-
  What the document's own answers of this layer do, as contracts: a world stays as it is.
-/
import Derived.Test.YthjkliblkfkcpaaSum
namespace Go.Proofs.Ythjkliblkfkcpaa
open Go.ChangeShapes Go.WideShapes Go.ChangeAt Go.RowKit

set_option maxHeartbeats 400000 in
theorem refRound_any (n : Nat) (w : World) (h : n < 2 ^ 62) :
    Calls Try.prog 14 #[.int .i64 n] w fun x w' => x = .returned (.int .i64 (rnd n)) ∧ w' = w := by
  go_enter Try.func14, Try.ntmps14
  go_wp2
  go_loop [0] (fun v => ∃ k : Nat, (k : Int) < 4611686018427387904 ∧ rnd k = rnd n ∧ v = .int .i64 k) (fun v => (intOf v).toNat)
  case atStart => exact ⟨n, by omega, rfl, rfl⟩
  case round =>
    obtain ⟨k, hk, hr, rfl⟩ := hrel
    by_cases hlt : (65536 : Int) ≤ (k : Int)
    · go_wp2
      go_round
      case rel => exact ⟨k % 65536 + k / 65536, by omega, by rw [rnd_step k (by omega), hr], by go_num⟩
      case measure => simp only [intOf]; omega
    · go_wp2
      go_ret
      exact ⟨ret_int (by rw [← hr, rnd_small k (by omega)]), rfl⟩

set_option maxHeartbeats 400000 in
theorem refJoin_any (a b : Int) (odd : Bool) (w : World) :
    Calls Try.prog 13 #[.int .i64 a, .int .i64 b, .bool odd] w fun x w' => x = .returned (.int .i64 (joinV a b odd)) ∧ w' = w := by
  have ea := and_65535_i64 a
  have eb := and_65535_i64 b
  have ba : 0 ≤ bits BinOp.and IntKind.i64 a 65535 ∧ bits BinOp.and IntKind.i64 a 65535 ≤ 65535 := by omega
  have bb : 0 ≤ bits BinOp.and IntKind.i64 b 65535 ∧ bits BinOp.and IntKind.i64 b 65535 ≤ 65535 := by omega
  clear ea eb
  have HA : Hid (neg16 a ≤ 65535) := neg16_le a
  have HB : Hid (neg16 b ≤ 65535) := neg16_le b
  cases odd
  · have ej : joinV a b false = 65535 - rnd (neg16 a + neg16 b) := rfl
    rw [ej]
    have HR : Hid (rnd (neg16 a + neg16 b) ≤ 65535) := rnd_le _
    clear ej
    go_enter Try.func13, Try.ntmps13
    go_wp2_with fail
    simp only [neg16_eq, ← Int.natCast_add]
    refine (refRound_any _ _ (by have := HA.out; have := HB.out; omega)).mono ?_
    rintro x w1 ⟨rfl, rfl⟩
    have hr := HR.out
    go_wp2_with fail
    go_ret
    exact ⟨ret_int (by omega), rfl⟩
  · have ej : joinV a b true = 65535 - rnd (neg16 a + exch (neg16 b)) := rfl
    rw [ej]
    have HR : Hid (rnd (neg16 a + exch (neg16 b)) ≤ 65535) := rnd_le _
    have HE : Hid (exch (neg16 b) ≤ 65535) := exch_le _ (neg16_le b)
    have ee : ((neg16 b : Int) % 256 * 256 + (neg16 b : Int) / 256) = (exch (neg16 b) : Int) := by unfold exch; omega
    have EE : Hid (((neg16 b : Int) % 256 * 256 + (neg16 b : Int) / 256) = (exch (neg16 b) : Int)) := ee
    clear ej ee
    go_enter Try.func13, Try.ntmps13
    go_wp2_with fail
    simp only [neg16_eq, EE.out, ← Int.natCast_add]
    refine (refRound_any _ _ (by have := HA.out; have := HE.out; omega)).mono ?_
    rintro x w1 ⟨rfl, rfl⟩
    have hr := HR.out
    go_wp2_with fail
    go_ret
    exact ⟨ret_int (by omega), rfl⟩

set_option maxHeartbeats 400000 in
theorem refSum_any (s : ByteArray) (w : World) (hs : s.size ≤ 1000000) :
    Calls Try.prog 9 #[.string s] w fun x w' => x = .returned (.int .i64 (sumV s.data.toList)) ∧ w' = w := by
  go_enter Try.func9, Try.ntmps9
  go_wp2
  go_loop [3, 4] (fun n i => ∃ k : Nat, k ≤ s.size + 1 ∧ k % 2 = 0 ∧ i = .int .i64 k ∧ n = .int .i64 (rnd (psum true (s.data.toList.take k)))) (fun _ i => s.size + 1 - (intOf i).toNat)
  case atStart => exact ⟨0, Nat.zero_le _, rfl, rfl, rfl⟩
  case round =>
    obtain ⟨k, hk, he, rfl, rfl⟩ := hrel
    have HR := rnd_le (psum true (s.data.toList.take k))
    by_cases hlt : k < s.size
    · have HS : Hid (psum true (s.data.toList.take (k + 1)) = psum true (s.data.toList.take k) + 256 * s[k].toNat) := by
        have h := psum_take s k hlt
        rw [if_pos he] at h
        exact h
      have hc := s[k].toNat_lt
      by_cases hl2 : k + 1 < s.size
      · have HT : Hid (psum true (s.data.toList.take (k + 2)) = psum true (s.data.toList.take (k + 1)) + s[k+1].toNat) := by
          have h := psum_take s (k + 1) hl2
          rw [if_neg (by omega)] at h
          exact h
        have hd := s[k+1].toNat_lt
        have E : Hid (rnd (rnd (psum true (s.data.toList.take k)) + 256 * s[k].toNat + s[k+1].toNat) = rnd (psum true (s.data.toList.take (k + 2)))) := by
          unfold Hid
          rw [HT.out, HS.out, Nat.add_assoc, Nat.add_assoc, rnd_left]
        go_wp2_with fail
        rw [show ((rnd (psum true (List.take k s.data.toList)) : Int) + 256 * (s[k].toNat : Int) + (s[k + 1].toNat : Int)) = ((rnd (psum true (s.data.toList.take k)) + 256 * s[k].toNat + s[k+1].toNat : Nat) : Int) by omega]
        refine (refRound_any _ _ (by omega)).mono ?_
        rintro x w1 ⟨rfl, rfl⟩
        go_wp2_with fail
        go_round
        case rel => exact ⟨k + 2, by omega, by omega, by go_num, by rw [E.out]⟩
        case measure => simp [intOf]; omega
      · have E : Hid (rnd (rnd (psum true (s.data.toList.take k)) + 256 * s[k].toNat) = rnd (psum true (s.data.toList.take (k + 2)))) := by
          unfold Hid
          have q : s.data.toList.take (k + 2) = s.data.toList.take (k + 1) := by
            rw [List.take_of_length_le (by simp; omega), List.take_of_length_le (by simp; omega)]
          rw [q, HS.out, rnd_left]
        go_wp2_with fail
        rw [show ((rnd (psum true (List.take k s.data.toList)) : Int) + 256 * (s[k].toNat : Int)) = ((rnd (psum true (s.data.toList.take k)) + 256 * s[k].toNat : Nat) : Int) by omega]
        refine (refRound_any _ _ (by omega)).mono ?_
        rintro x w1 ⟨rfl, rfl⟩
        go_wp2_with fail
        go_round
        case rel => exact ⟨k + 2, by omega, by omega, by go_num, by rw [E.out]⟩
        case measure => simp [intOf]; omega
    · go_wp2
      go_ret
      have e := sumV_eq s.data.toList
      rw [List.take_of_length_le (by simp; omega)]
      exact ⟨ret_int e, rfl⟩
end Go.Proofs.Ythjkliblkfkcpaa
