/-
  The five laws' walks.
-/
import Derived.Test.YthjkliblkfkcpaaRef
import Derived.Below
import Derived.Laws.BytesArg
import Derived.BigQuiet
namespace Go.Proofs.Ythjkliblkfkcpaa
open Go.ChangeShapes Go.WideShapes Go.ChangeAt Go.RowKit

set_option maxHeartbeats 400000 in
theorem joins_walk (a b : Int) (odd : Bool) (w : World) (_ : (Lit.int .i64 a).wf = true) (_ : (Lit.int .i64 b).wf = true) :
    Calls Try.prog 4 #[.int .i64 a, .int .i64 b, .bool odd] w fun e w' => e = .returned (.bool true) ∧ Below w.heap.size w w' := by
  go_enter Try.func4, Try.ntmps4
  go_wp2_with fail
  refine (join_any a b odd _).mono ?_
  rintro x w1 ⟨rfl, rfl⟩
  go_wp2_with fail
  refine (refJoin_any a b odd _).mono ?_
  rintro x w1 ⟨rfl, rfl⟩
  go_wp2_with fail
  refine (awake_any _).mono ?_
  rintro x w1 ⟨rfl, rfl⟩
  go_wp2_with fail
  go_ret
  exact ⟨rfl, Below.refl _ _⟩

set_option maxHeartbeats 400000 in
theorem sums_walk (s : ByteArray) (w : World) (_ : s.size ≤ maxLen) :
    Calls Try.prog 3 #[.string s] w fun e w' => e = .returned (.bool true) ∧ Below w.heap.size w w' := by
  by_cases hl : (100000 : Int) < (s.size : Int)
  · go_enter Try.func3, Try.ntmps3
    go_wp2_with fail
    refine (awake_any _).mono ?_
    rintro x w1 ⟨rfl, rfl⟩
    go_wp2_with fail
    go_ret
    exact ⟨rfl, Below.refl _ _⟩
  · have HL : Hid (s.size ≤ 1000000) := by unfold Hid; omega
    have E : Hid ((sumV s.data.toList == 0) = ((sumV s.data.toList : Int) == 0)) := by unfold Hid; rw [Bool.eq_iff_iff]; simp
    go_enter Try.func3, Try.ntmps3
    go_wp2_with fail
    refine (refSum_any s _ HL.out).mono ?_
    rintro x w1 ⟨rfl, rfl⟩
    go_wp2_with fail
    refine (sum_any s _ HL.out).mono ?_
    rintro x w1 ⟨rfl, rfl⟩
    go_wp2_with fail
    refine (right_any s _ HL.out).mono ?_
    rintro x w1 ⟨rfl, rfl⟩
    rw [E.out]
    go_wp2_with fail
    refine (awake_any _).mono ?_
    rintro x w1 ⟨rfl, rfl⟩
    go_wp2_with fail
    go_ret
    exact ⟨rfl, Below.refl _ _⟩

/-- Join of the sums of two texts is the sum of both. -/
theorem join_both (l m : List UInt8) : joinV (sumV l) (sumV m) (decide (l.length % 2 = 1)) = sumV (l ++ m) := by
  have n1 : neg16 (sumV l) = rnd (psum true l) := by have := rnd_le (psum true l); unfold neg16 sumV; omega
  have n2 : neg16 (sumV m) = rnd (psum true m) := by have := rnd_le (psum true m); unfold neg16 sumV; omega
  unfold joinV
  rw [n1, n2]
  unfold sumV
  rw [psum_append]
  congr 1
  by_cases h : l.length % 2 = 1
  · rw [h]
    simp only [decide_true, ite_true, BEq.rfl, Bool.xor_true, Bool.not_true]
    rw [rnd_exch, rnd_left]
    have := psum_other m
    apply rnd_same <;> omega
  · have h0 : l.length % 2 = 0 := by omega
    rw [h0]
    simp
    rw [rnd_left, rnd_right]

theorem toList_append (a b : ByteArray) : (a ++ b).data.toList = a.data.toList ++ b.data.toList := by
  rw [ByteArray.data_append, Array.toList_append]

set_option maxHeartbeats 400000 in
theorem both_out (a b : ByteArray) (w : World) (h : (50000 : Int) < (a.size : Int) ∨ (50000 : Int) < (b.size : Int)) :
    Calls Try.prog 5 #[.string a, .string b] w fun e w' => e = .returned (.bool true) ∧ Below w.heap.size w w' := by
  by_cases hl : (50000 : Int) < (a.size : Int)
  · clear h
    go_enter Try.func5, Try.ntmps5
    go_wp2_with fail
    refine (awake_any _).mono ?_
    rintro x w1 ⟨rfl, rfl⟩
    go_wp2_with fail
    go_ret
    exact ⟨rfl, Below.refl _ _⟩
  · have hb : (50000 : Int) < (b.size : Int) := by omega
    clear h
    go_enter Try.func5, Try.ntmps5
    go_wp2_with fail
    refine (awake_any _).mono ?_
    rintro x w1 ⟨rfl, rfl⟩
    go_wp2_with fail
    go_ret
    exact ⟨rfl, Below.refl _ _⟩

set_option maxHeartbeats 400000 in
theorem both_in (a b : ByteArray) (w : World) (ha : (a.size : Int) ≤ 50000) (hb : (b.size : Int) ≤ 50000) :
    Calls Try.prog 5 #[.string a, .string b] w fun e w' => e = .returned (.bool true) ∧ Below w.heap.size w w' := by
  have HJ : Hid (joinV (sumV a.data.toList) (sumV b.data.toList) (decide (a.size % 2 = 1)) = sumV (a ++ b).data.toList) := by
    unfold Hid
    have := join_both a.data.toList b.data.toList
    rw [toList_append, ← this]
    simp
  have HE : Hid (((a.size : Int) % 2 == 1) = decide (a.size % 2 = 1)) := by unfold Hid; rw [Bool.eq_iff_iff]; simp; omega
  have HA : Hid (a.size ≤ 1000000) := by unfold Hid; omega
  have HB : Hid (b.size ≤ 1000000) := by unfold Hid; omega
  have HS : Hid ((a ++ b).size ≤ 1000000) := by unfold Hid; rw [ByteArray.size_append]; omega
  go_enter Try.func5, Try.ntmps5
  go_wp2_with fail
  refine (sum_any a _ HA.out).mono ?_
  rintro x w1 ⟨rfl, rfl⟩
  go_wp2_with fail
  refine (sum_any b _ HB.out).mono ?_
  rintro x w1 ⟨rfl, rfl⟩
  go_wp2_with fail
  rw [HE.out]
  refine (join_any _ _ _ _).mono ?_
  rintro x w1 ⟨rfl, rfl⟩
  rw [HJ.out]
  go_wp2_with fail
  refine (sum_any _ _ HS.out).mono ?_
  rintro x w1 ⟨rfl, rfl⟩
  go_wp2_with fail
  refine (awake_any _).mono ?_
  rintro x w1 ⟨rfl, rfl⟩
  go_wp2_with fail
  go_ret
  exact ⟨rfl, Below.refl _ _⟩

theorem both_walk (a b : ByteArray) (w : World) (_ : a.size ≤ maxLen) (_ : b.size ≤ maxLen) :
    Calls Try.prog 5 #[.string a, .string b] w fun e w' => e = .returned (.bool true) ∧ Below w.heap.size w w' := by
  by_cases h : (50000 : Int) < (a.size : Int) ∨ (50000 : Int) < (b.size : Int)
  · exact both_out a b w h
  · exact both_in a b w (by omega) (by omega)
end Go.Proofs.Ythjkliblkfkcpaa
