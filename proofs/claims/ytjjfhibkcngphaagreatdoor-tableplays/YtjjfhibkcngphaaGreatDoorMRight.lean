/-
  What is wrong with tests: what Width, greatest, whole, isWhole, fits, mayStand, rightBehind and Right answer, as contracts.
-/
import Derived.Test.YtjjfhibkcngphaaGreatDoorMHas
namespace Go.Proofs.YtjjfhibkcngphaaGreatDoor.Mt
open Go.ChangeShapes Go.WideShapes Go.ChangeAt Go.RowKit

set_option maxHeartbeats 1000000 in
theorem width_any (f : Int) (w : World) : Calls Tryz.prog 79 #[.int .i64 f] w fun e w' => e = .returned (.int .i64 (wdV f)) ∧ w' = w := by
  by_cases h : f < 1 ∨ 9 < f
  · obtain ⟨b1, b2, b3, b4, b5, b6, b7, b8, b9⟩ := none_of h
    rw [wdV_none h]
    clear h
    go_enter Tryz.func79, Tryz.ntmps79
    go_wp2
    go_ret
    exact ⟨rfl, rfl⟩
  · rcases cls9 h with rfl | rfl | rfl | rfl | rfl | rfl | rfl | rfl | rfl
    all_goals
      clear h
      go_enter Tryz.func79, Tryz.ntmps79
      go_wp2
      go_ret
      exact ⟨rfl, rfl⟩

set_option maxHeartbeats 2000000 in
theorem greatest_any (f : Int) (w : World) : Calls Tryz.prog 92 #[.int .i64 f] w fun e w' => e = .returned (.int .u64 (grV f)) ∧ w' = w := by
  by_cases h : f < 1 ∨ 9 < f
  · have hw := width_any f
    rw [wdV_none h] at hw
    rw [grV_none h]
    clear h
    go_enter Tryz.func92, Tryz.ntmps92
    go_wp2_with fail
    refine (hw _).mono ?_
    rintro x w1 ⟨rfl, rfl⟩
    go_wp2_with fail
    go_ret
    exact ⟨rfl, rfl⟩
  · rcases cls9 h with rfl | rfl | rfl | rfl | rfl | rfl | rfl | rfl | rfl
    all_goals
      clear h
      go_enter Tryz.func92, Tryz.ntmps92
      go_wp2_with fail
      refine (width_any _ _).mono ?_
      rintro x w1 ⟨rfl, rfl⟩
      simp only [show wdV 1 = 32 from rfl, show wdV 2 = 64 from rfl, show wdV 3 = 13 from rfl, show wdV 4 = 16 from rfl, show wdV 5 = 32 from rfl, show wdV 6 = 32 from rfl, show wdV 7 = 8 from rfl, show wdV 8 = 16 from rfl, show wdV 9 = 16 from rfl]
      go_wp2_with fail
      go_ret
      exact ⟨rfl, rfl⟩

set_option maxHeartbeats 1000000 in
theorem whole_any (f v : Int) (w : World) : Calls Tryz.prog 94 #[.int .i64 f, .int .u64 v] w fun e w' => e = .returned (tV (f, v, grV f)) ∧ Below w.heap.size w w' := by
  have HG : Hid (∀ w, Calls Tryz.prog 92 #[.int .i64 f] w fun e w' => e = .returned (.int .u64 (grV f)) ∧ w' = w) := fun w => greatest_any f w
  go_enter Tryz.func94, Tryz.ntmps94
  go_wp2_with fail
  refine (HG.out _).mono ?_
  rintro x w1 ⟨rfl, rfl⟩
  go_wp2_with fail
  refine bodyPost_ret (resT (b := w.heap.size) (t := (f, v, grV f)) rfl rfl (by unfold C3; simp)) rfl ?_
  exact ⟨rfl, by go_grown⟩

set_option maxHeartbeats 2000000 in
theorem fits_0 (t : T) (w : World) (h0 : (t.2.2 != 0) = false) : Calls Tryz.prog 82 #[tV t] w fun e w' => e = .returned (.bool (false)) ∧ Below w.heap.size w w' := by
  have HG : Hid (∀ w, Calls Tryz.prog 92 #[.int .i64 t.1] w fun e w' => e = .returned (.int .u64 (grV t.1)) ∧ w' = w) := fun w => greatest_any _ w
  have q := C3.gr (C3.new w t) (by simp)
  have q0 := fun n => (q n).1
  have q1 := fun n => (q n).2.1
  have q2 := fun n => (q n).2.2
  clear q
  go_enter Tryz.func82, Tryz.ntmps82
  go_wp2_with fail
  refine wp_region_grow (by kernel_rfl) (by kernel_rfl) ?_
  repeat (go_big_quiet_step (first | (go_at_call 92; exact quiet_gs (HG.out _))))
  refine wpQuiet_nil ?_
  rintro w1 hw'
  have g1 := gr_elim hw'
  clear hw'
  go_wp2_with fail
  go_ret
  exact ⟨rfl, btr (by go_grown) g1 (by simp)⟩

set_option maxHeartbeats 2000000 in
theorem fits_1 (t : T) (w : World) (h0 : (t.2.2 != 0) = true) (h1 : decide (t.2.2 ≤ grV t.1) = false) : Calls Tryz.prog 82 #[tV t] w fun e w' => e = .returned (.bool (false)) ∧ Below w.heap.size w w' := by
  have HG : Hid (∀ w, Calls Tryz.prog 92 #[.int .i64 t.1] w fun e w' => e = .returned (.int .u64 (grV t.1)) ∧ w' = w) := fun w => greatest_any _ w
  have q := C3.gr (C3.new w t) (by simp)
  have q0 := fun n => (q n).1
  have q1 := fun n => (q n).2.1
  have q2 := fun n => (q n).2.2
  clear q
  go_enter Tryz.func82, Tryz.ntmps82
  go_wp2_with fail
  refine wp_region_grow (by kernel_rfl) (by kernel_rfl) ?_
  repeat (go_big_quiet_step (first | (go_at_call 92; exact quiet_gs (HG.out _))))
  refine wpQuiet_nil ?_
  rintro w1 hw'
  have g1 := gr_elim hw'
  clear hw'
  go_wp2_with fail
  go_ret
  exact ⟨rfl, btr (by go_grown) g1 (by simp)⟩

set_option maxHeartbeats 2000000 in
theorem fits_2 (t : T) (w : World) (h0 : (t.2.2 != 0) = true) (h1 : decide (t.2.2 ≤ grV t.1) = true) : Calls Tryz.prog 82 #[tV t] w fun e w' => e = .returned (.bool (bits .andNot .u64 t.2.1 t.2.2 == 0)) ∧ Below w.heap.size w w' := by
  have HG : Hid (∀ w, Calls Tryz.prog 92 #[.int .i64 t.1] w fun e w' => e = .returned (.int .u64 (grV t.1)) ∧ w' = w) := fun w => greatest_any _ w
  have q := C3.gr (C3.new w t) (by simp)
  have q0 := fun n => (q n).1
  have q1 := fun n => (q n).2.1
  have q2 := fun n => (q n).2.2
  clear q
  go_enter Tryz.func82, Tryz.ntmps82
  go_wp2_with fail
  refine wp_region_grow (by kernel_rfl) (by kernel_rfl) ?_
  repeat (go_big_quiet_step (first | (go_at_call 92; exact quiet_gs (HG.out _))))
  refine wpQuiet_nil ?_
  rintro w1 hw'
  have g1 := gr_elim hw'
  clear hw'
  go_wp2_with fail
  go_ret
  exact ⟨rfl, btr (by go_grown) g1 (by simp)⟩

theorem fits_any (t : T) (w : World) : Calls Tryz.prog 82 #[tV t] w fun e w' => e = .returned (.bool (fitB t)) ∧ Below w.heap.size w w' := by
  unfold fitB
  cases h0 : (t.2.2 != 0) with
  | false =>
    have e : (t.2.2 == 0) = true := by simpa using h0
    rw [e]
    exact fits_0 t w h0
  | true =>
    have e : (t.2.2 == 0) = false := by simpa using h0
    rw [e]
    cases h1 : decide (t.2.2 ≤ grV t.1) with
    | false => exact fits_1 t w h0 h1
    | true => exact fits_2 t w h0 h1
end Go.Proofs.YtjjfhibkcngphaaGreatDoor.Mt
