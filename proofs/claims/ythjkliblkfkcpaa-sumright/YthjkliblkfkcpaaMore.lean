/-
  The walks of SumRight and SumPairs.
-/
import Derived.Test.YthjkliblkfkcpaaLaws
namespace Go.Proofs.Ythjkliblkfkcpaa
open Go.ChangeShapes Go.WideShapes Go.ChangeAt Go.RowKit

theorem cv2 (a b : Int) (w : World) : (convert 28 9 (.slice (some ⟨w.heap.size, 0, none⟩) 2 2)).run Try.prog (w.alloc (.cells #[.int .u8 a, .int .u8 b] 5)) = .ok (.string (strOfNums [a, b])) (w.alloc (.cells #[.int .u8 a, .int .u8 b] 5)) := by
  refine run_convert_bytes_arg _ 28 5 Try.underlying28 Try.underlying5 w.heap.size 0 2 2 [a, b] rfl (fun i hi => ?_) 9 Try.underlying9
  have : i = 0 ∨ i = 1 := by omega
  rcases this with rfl | rfl <;> simp

theorem toList_strOfNums (l : List Int) : (strOfNums l).data.toList = l.map fun n => UInt8.ofNat n.toNat := by
  simp [strOfNums]

/-- A text of an even number of bytes with its sum behind it has the sum 0. -/
theorem sum_right (l : List UInt8) (h : l.length % 2 = 0) (n : Nat) (hn : n = sumV l) : sumV (l ++ [UInt8.ofNat (n / 256), UInt8.ofNat (n % 256)]) = 0 := by
  have hr := rnd_le (psum true l)
  unfold sumV at *
  rw [psum_append, h]
  simp [psum, UInt8.toNat_ofNat']
  have e : 256 * (n / 256 % 256) + n % 256 = n := by omega
  rw [e, ← rnd_left, hn]
  have : rnd (psum true l) + (65535 - rnd (psum true l)) = 65535 := by omega
  rw [this, rnd_small _ (by omega)]

set_option maxHeartbeats 400000 in
theorem right_in (s : ByteArray) (w : World) (ha : (s.size : Int) ≤ 50000) (he : ((s.size : Int) % 2 == 1) = false) :
    Calls Try.prog 6 #[.string s] w fun e w' => e = .returned (.bool true) ∧ Below w.heap.size w w' := by
  have HA : Hid (s.size ≤ 1000000) := by unfold Hid; omega
  have hc := cv2
  have HB : Hid (sumV s.data.toList ≤ 65535) := by unfold Hid sumV; omega
  obtain ⟨n, hn⟩ : ∃ n, n = sumV s.data.toList := ⟨_, rfl⟩
  have HN : Hid (n = sumV s.data.toList) := hn
  clear hn
  go_enter Try.func6, Try.ntmps6
  go_wp2_with fail
  refine (sum_any s _ HA.out).mono ?_
  rw [← HN.out]
  rintro x w1 ⟨rfl, rfl⟩
  have e4 : ((strOfNums [(n : Int) / 256, (n : Int) % 256]).size : Int) = 2 := by rw [strOfNums_size]; rfl
  have HS : Hid ((s ++ strOfNums [(n : Int) / 256, (n : Int) % 256]).size ≤ 1000000) := by unfold Hid; rw [ByteArray.size_append, strOfNums_size]; simp; omega
  have hb2 : (n : Int) < 65536 := by have := HB.out; have := HN.out; omega
  have hb0 : (0 : Int) ≤ (n : Int) := by omega
  have HZ : Hid ((sumV (s ++ strOfNums [(n : Int) / 256, (n : Int) % 256]).data.toList == 0) = true) := by
    unfold Hid
    have h := sum_right s.data.toList (by simp at he ⊢; omega) n HN.out
    rw [toList_append, toList_strOfNums]
    simp only [List.map_cons, List.map_nil]
    rw [show ((n : Int) / 256).toNat = n / 256 by omega, show ((n : Int) % 256).toNat = n % 256 by omega, h]
    rfl
  go_wp2_with fail
  refine (right_any _ _ HS.out).mono ?_
  rintro x w1 ⟨rfl, rfl⟩
  rw [HZ.out]
  go_wp2_with fail
  refine (awake_any _).mono ?_
  rintro x w1 ⟨rfl, rfl⟩
  go_wp2_with fail
  go_ret
  exact ⟨rfl, (Below.refl _ _).alloc (Nat.le_refl _) _⟩

set_option maxHeartbeats 400000 in
theorem right_walk (s : ByteArray) (w : World) (_ : s.size ≤ maxLen) :
    Calls Try.prog 6 #[.string s] w fun e w' => e = .returned (.bool true) ∧ Below w.heap.size w w' := by
  by_cases hl : (50000 : Int) < (s.size : Int)
  · go_enter Try.func6, Try.ntmps6
    go_wp2_with fail
    refine (awake_any _).mono ?_
    rintro x w1 ⟨rfl, rfl⟩
    go_wp2_with fail
    go_ret
    exact ⟨rfl, Below.refl _ _⟩
  · cases he : ((s.size : Int) % 2 == 1)
    · exact right_in s w (by omega) he
    · go_enter Try.func6, Try.ntmps6
      go_wp2_with fail
      refine (awake_any _).mono ?_
      rintro x w1 ⟨rfl, rfl⟩
      go_wp2_with fail
      go_ret
      exact ⟨rfl, Below.refl _ _⟩

/-- Pairs go in any order. -/
theorem sum_turn (l m : List UInt8) (h1 : l.length % 2 = 0) (h2 : m.length % 2 = 0) : sumV (l ++ m) = sumV (m ++ l) := by
  unfold sumV
  rw [psum_append, psum_append, h1, h2]
  simp [Nat.add_comm]

theorem pairs_eq (s : ByteArray) (h : 2 ≤ s.size) (he : s.size % 2 = 0) : sumV s.data.toList = sumV (s.extract (s.size - 2) s.size ++ s.extract 0 (s.size - 2)).data.toList := by
  have e : s = s.extract 0 (s.size - 2) ++ s.extract (s.size - 2) s.size := by
    rw [ByteArray.extract_append_extract]
    simp
  rw [toList_append, sum_turn, ← toList_append, ← e]
  · simp; omega
  · simp; omega

theorem sum_turned (s : ByteArray) (w : World) (hs : s.size ≤ 1000000) (h : 2 ≤ s.size) (he : s.size % 2 = 0) :
    Calls Try.prog 10 #[.string (s.extract (s.size - 2) s.size ++ s.extract 0 (s.size - 2))] w fun x w' => x = .returned (.int .i64 (sumV s.data.toList)) ∧ w' = w := by
  rw [pairs_eq s h he]
  exact sum_any _ _ (by rw [ByteArray.size_append, ByteArray.size_extract, ByteArray.size_extract]; omega)

set_option maxHeartbeats 400000 in
theorem pairs_in (s : ByteArray) (w : World) (h0 : (2 : Int) ≤ (s.size : Int)) (ha : (s.size : Int) ≤ 50000) (he : ((s.size : Int) % 2 == 1) = false) :
    Calls Try.prog 7 #[.string s] w fun e w' => e = .returned (.bool true) ∧ Below w.heap.size w w' := by
  have HA : Hid (s.size ≤ 1000000) := by unfold Hid; omega
  have H2 : Hid (2 ≤ s.size) := by unfold Hid; omega
  have HE : Hid (s.size % 2 = 0) := by unfold Hid; simp at he; omega
  go_enter Try.func7, Try.ntmps7
  go_wp2_with fail
  go_quiet (first | (go_at_call 8; refine Calls.quiet_of_same (awake_any _)) | (go_at_call 10; refine Calls.quiet_of_same (sum_any s _ HA.out)) | (go_at_call 10; refine Calls.quiet_of_same (sum_turned s _ HA.out H2.out HE.out)))
  go_wp2
  go_ret
  exact ⟨rfl, ⟨rfl, rfl, rfl, Nat.le_refl _, fun _ _ => rfl⟩⟩

set_option maxHeartbeats 400000 in
theorem pairs_walk (s : ByteArray) (w : World) (_ : s.size ≤ maxLen) :
    Calls Try.prog 7 #[.string s] w fun e w' => e = .returned (.bool true) ∧ Below w.heap.size w w' := by
  by_cases h0 : (s.size : Int) < 2
  · go_enter Try.func7, Try.ntmps7
    go_wp2_with fail
    refine (awake_any _).mono ?_
    rintro x w1 ⟨rfl, rfl⟩
    go_wp2_with fail
    go_ret
    exact ⟨rfl, Below.refl _ _⟩
  by_cases hl : (50000 : Int) < (s.size : Int)
  · go_enter Try.func7, Try.ntmps7
    go_wp2_with fail
    refine (awake_any _).mono ?_
    rintro x w1 ⟨rfl, rfl⟩
    go_wp2_with fail
    go_ret
    exact ⟨rfl, Below.refl _ _⟩
  cases he : ((s.size : Int) % 2 == 1)
  · exact pairs_in s w (by omega) (by omega) he
  · go_enter Try.func7, Try.ntmps7
    go_wp2_with fail
    refine (awake_any _).mono ?_
    rintro x w1 ⟨rfl, rfl⟩
    go_wp2_with fail
    go_ret
    exact ⟨rfl, Below.refl _ _⟩
end Go.Proofs.Ythjkliblkfkcpaa
