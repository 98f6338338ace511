/-
  What the program's tests of a packet answer, as contracts; how long its parts are.
-/
import Derived.Test.YtmlonfchbkmbcabDoorGSpec
namespace Go.Proofs.YtmlonfchbkmbcabDoor.Fr
open Go.ChangeShapes Go.WideShapes Go.ChangeAt Go.RowKit

set_option maxHeartbeats 400000 in
theorem within_any (n lo hi : Int) (w : World) :
    Calls Tryd.prog 30 #[.int .i64 n, .int .i64 lo, .int .i64 hi] w fun x w' => x = .returned (.bool (inB n lo hi)) ∧ w' = w := by
  unfold inB
  by_cases h1 : lo ≤ n <;> by_cases h2 : n ≤ hi <;>
  · go_enter Tryd.func30, Tryd.ntmps30
    go_wp2
    go_ret
    simp [h1, h2]

set_option maxHeartbeats 400000 in
theorem hasPorts_any (p : Pk) (w : World) :
    Calls Tryd.prog 49 #[pkV p] w fun x w' => x = .returned (.bool (hasB p)) ∧ Below w.heap.size w w' := by
  go_enter Tryd.func49, Tryd.ntmps49
  go_wp2
  · go_ret
    exact ⟨ret_bool (by simp [hasB, *]), by go_grown⟩
  · go_ret
    exact ⟨ret_bool (by simp [hasB, *]), by go_grown⟩

set_option maxHeartbeats 400000 in
theorem partAhead_any (p : Pk) (w : World) :
    Calls Tryd.prog 32 #[pkV p] w fun x w' => x = .returned (.int .i64 (partA p)) ∧ Below w.heap.size w w' := by
  go_enter Tryd.func32, Tryd.ntmps32
  go_wp2
  all_goals
    go_ret
    exact ⟨ret_int (by simp_all [partA]), by go_grown⟩

set_option maxHeartbeats 400000 in
theorem ahead_any (p : Pk) (w : World) :
    Calls Tryd.prog 17 #[pkV p] w fun x w' => x = .returned (.int .i64 (aheadV p)) ∧ Below w.heap.size w w' := by
  have hp := partA_le p
  go_enter Tryd.func17, Tryd.ntmps17
  go_wp2_with fail
  refine (partAhead_any p _).mono ?_
  rintro x w1 ⟨rfl, g1⟩
  have hc := (Bx.new w p).below (by simp) g1
  obtain ⟨h0, h1, h2, h3, h4, h5, h6, h7, h8, h9, h10⟩ := hc
  go_wp2_with fail
  all_goals
    go_ret
    exact ⟨ret_int (by clear g1; simp_all [aheadV] <;> omega), btr (by go_grown) g1 (by simp)⟩

set_option maxHeartbeats 400000 in
theorem partSize_any (p : Pk) (w : World) (hs : p.data.size ≤ 3000) :
    Calls Tryd.prog 51 #[pkV p] w fun x w' => x = .returned (.int .i64 (partZ p)) ∧ Below w.heap.size w w' := by
  have hp := partA_le p
  have hs' : (p.data.size : Int) ≤ 3000 := by omega
  go_enter Tryd.func51, Tryd.ntmps51
  go_wp2
  have hc : ∀ n : GrT (bx w p), Bx n.w w.heap.size p := fun n => (Bx.new w p).below (by simp) n.h
  refine wp_region_grow (by kernel_rfl) (by kernel_rfl) ?_
  repeat (go_big_quiet_step (first | (go_at_call 32; exact quiet_gr (partAhead_any p _))))
  refine wpQuiet_nil ?_
  rintro w1 hw'
  have g1 := gr_elim hw'
  clear hw'
  go_wp2
  go_ret
  exact ⟨ret_int (by simp [partZ]), btr (by go_grown) g1 (by simp)⟩

set_option maxHeartbeats 1000000 in
theorem rightInside_any (p : Pk) (w : World) :
    Calls Tryd.prog 31 #[pkV p] w fun x w' => x = .returned (.bool (insideB p)) ∧ Below w.heap.size w w' := by
  by_cases ht : p.ty = 2048
  · have HT : Hid (insideB p = (inB p.life 0 255 && inB p.pro 0 255 && inB p.sp 0 (if hasB p then 65535 else 0) && inB p.dp 0 (if hasB p then 65535 else 0))) := by
      unfold Hid insideB; rw [if_pos ht]
    have hb : (p.ty != 2048) = false := by simp [ht]
    rw [HT.out]
    clear ht HT
    go_enter Tryd.func31, Tryd.ntmps31
    go_wp2_with fail
    refine (hasPorts_any p _).mono ?_
    rintro x w1 ⟨rfl, g1⟩
    have hc := (Bx.new w p).below (by simp) g1
    obtain ⟨h0, h1, h2, h3, h4, h5, h6, h7, h8, h9, h10⟩ := hc
    cases hh : hasB p
    all_goals
      go_wp2_with (first | (go_at_call 30; refine (within_any _ _ _ _).mono ?_; rintro x w2 ⟨rfl, rfl⟩))
      all_goals
        go_ret
        exact ⟨ret_bool (by simp [*]), btr (by go_grown) g1 (by simp)⟩
  · have HT : Hid (insideB p = (p.src == 0 && p.dst == 0 && p.life == 0 && p.pro == 0 && p.sp == 0 && p.dp == 0)) := by
      unfold Hid insideB; rw [if_neg ht]
    have hb : (p.ty != 2048) = true := by simp [ht]
    rw [HT.out]
    clear ht HT
    go_enter Tryd.func31, Tryd.ntmps31
    go_wp2
    all_goals
      go_ret
      exact ⟨ret_bool (by simp [*]), by go_grown⟩


set_option maxHeartbeats 1000000 in
theorem rightP_any (p : Pk) (w : World) :
    Calls Tryd.prog 16 #[pkV p] w fun x w' => x = .returned (.bool (rightB p)) ∧ Below w.heap.size w w' := by
  unfold rightB
  cases hA : (p.to / 281474976710656 == 0)
  · go_enter Tryd.func16, Tryd.ntmps16
    go_wp2_with  (first | (go_at_call 30; refine (within_any _ _ _ _).mono ?_; rintro x w2 ⟨rfl, rfl⟩) | (go_at_call 31; refine (rightInside_any p _).mono ?_; rintro x w2 ⟨rfl, g2⟩))
    go_ret
    exact ⟨ret_bool (by simp), by go_grown⟩
  cases hB : (p.fr / 281474976710656 == 0)
  · go_enter Tryd.func16, Tryd.ntmps16
    go_wp2_with  (first | (go_at_call 30; refine (within_any _ _ _ _).mono ?_; rintro x w2 ⟨rfl, rfl⟩) | (go_at_call 31; refine (rightInside_any p _).mono ?_; rintro x w2 ⟨rfl, g2⟩))
    go_ret
    exact ⟨ret_bool (by simp), by go_grown⟩
  cases hC : (p.vl == 0)
  · cases hV : inB p.vl 4096 8191
    · go_enter Tryd.func16, Tryd.ntmps16
      go_wp2_with (first | (go_at_call 30; refine (within_any _ _ _ _).mono ?_; rintro x w2 ⟨rfl, rfl⟩) | (go_at_call 31; refine (rightInside_any p _).mono ?_; rintro x w2 ⟨rfl, g2⟩))
      go_ret
      exact ⟨ret_bool (by simp), by go_grown⟩
    cases hD : inB p.ty 1536 65535
    · go_enter Tryd.func16, Tryd.ntmps16
      go_wp2_with (first | (go_at_call 30; refine (within_any _ _ _ _).mono ?_; rintro x w2 ⟨rfl, rfl⟩) | (go_at_call 31; refine (rightInside_any p _).mono ?_; rintro x w2 ⟨rfl, g2⟩))
      go_ret
      exact ⟨ret_bool (by simp), by go_grown⟩
    cases hE : (p.ty != 33024)
    · go_enter Tryd.func16, Tryd.ntmps16
      go_wp2_with (first | (go_at_call 30; refine (within_any _ _ _ _).mono ?_; rintro x w2 ⟨rfl, rfl⟩) | (go_at_call 31; refine (rightInside_any p _).mono ?_; rintro x w2 ⟨rfl, g2⟩))
      go_ret
      exact ⟨ret_bool (by simp), by go_grown⟩
    go_enter Tryd.func16, Tryd.ntmps16
    go_wp2_with (first | (go_at_call 30; refine (within_any _ _ _ _).mono ?_; rintro x w2 ⟨rfl, rfl⟩) | (go_at_call 31; refine (rightInside_any p _).mono ?_; rintro x w2 ⟨rfl, g2⟩))
    go_ret
    exact ⟨ret_bool (by simp), btr (by go_grown) g2 (by simp)⟩
  cases hD : inB p.ty 1536 65535
  · go_enter Tryd.func16, Tryd.ntmps16
    go_wp2_with (first | (go_at_call 30; refine (within_any _ _ _ _).mono ?_; rintro x w2 ⟨rfl, rfl⟩) | (go_at_call 31; refine (rightInside_any p _).mono ?_; rintro x w2 ⟨rfl, g2⟩))
    go_ret
    exact ⟨ret_bool (by simp), by go_grown⟩
  cases hE : (p.ty != 33024)
  · go_enter Tryd.func16, Tryd.ntmps16
    go_wp2_with (first | (go_at_call 30; refine (within_any _ _ _ _).mono ?_; rintro x w2 ⟨rfl, rfl⟩) | (go_at_call 31; refine (rightInside_any p _).mono ?_; rintro x w2 ⟨rfl, g2⟩))
    go_ret
    exact ⟨ret_bool (by simp), by go_grown⟩
  go_enter Tryd.func16, Tryd.ntmps16
  go_wp2_with (first | (go_at_call 30; refine (within_any _ _ _ _).mono ?_; rintro x w2 ⟨rfl, rfl⟩) | (go_at_call 31; refine (rightInside_any p _).mono ?_; rintro x w2 ⟨rfl, g2⟩))
  go_ret
  exact ⟨ret_bool (by simp), btr (by go_grown) g2 (by simp)⟩
end Go.Proofs.YtmlonfchbkmbcabDoor.Fr
