/-
  What Width, greatest, least, maySet and Right answer, as contracts.
-/
import Derived.Test.YtjjfhibkcngphaaGreatDoorTab
namespace Go.Proofs.YtjjfhibkcngphaaGreatDoor
open Go.ChangeShapes Go.WideShapes Go.ChangeAt Go.RowKit

set_option maxHeartbeats 1000000 in
theorem width_any (f : Int) (w : World) : Calls Tryz.prog 79 #[.int .i64 f] w fun e w' => e = .returned (.int .i64 (wdV f)) ∧ w' = w := by
  by_cases h : f < 1 ∨ 9 < f
  · obtain ⟨b1, b2, b3, b4, b5, b6, b7, b8, b9⟩ := none_of h
    rw [wdV_none h]
    clear h
    go_enter Tryz.func79, Tryz.ntmps79
    go_wp2
    go_ret
    exact ⟨rfl, rfl⟩
  · rcases cls9 h with rfl | rfl | rfl | rfl | rfl | rfl | rfl | rfl | rfl
    all_goals
      clear h
      go_enter Tryz.func79, Tryz.ntmps79
      go_wp2
      go_ret
      exact ⟨rfl, rfl⟩
set_option maxHeartbeats 2000000 in
theorem greatest_any (f : Int) (w : World) : Calls Tryz.prog 97 #[.int .i64 f] w fun e w' => e = .returned (.int .u64 (grV f)) ∧ w' = w := by
  by_cases h : f < 1 ∨ 9 < f
  · have hw := width_any f
    rw [wdV_none h] at hw
    rw [grV_none h]
    clear h
    go_enter Tryz.func97, Tryz.ntmps97
    go_wp2_with fail
    refine (hw _).mono ?_
    rintro x w1 ⟨rfl, rfl⟩
    go_wp2_with fail
    go_ret
    exact ⟨rfl, rfl⟩
  · rcases cls9 h with rfl | rfl | rfl | rfl | rfl | rfl | rfl | rfl | rfl
    all_goals
      clear h
      go_enter Tryz.func97, Tryz.ntmps97
      go_wp2_with fail
      refine (width_any _ _).mono ?_
      rintro x w1 ⟨rfl, rfl⟩
      simp only [show wdV 1 = 32 from rfl, show wdV 2 = 64 from rfl, show wdV 3 = 13 from rfl, show wdV 4 = 16 from rfl, show wdV 5 = 32 from rfl, show wdV 6 = 32 from rfl, show wdV 7 = 8 from rfl, show wdV 8 = 16 from rfl, show wdV 9 = 16 from rfl]
      go_wp2_with fail
      go_ret
      exact ⟨rfl, rfl⟩
set_option maxHeartbeats 1000000 in
theorem least_any (f : Int) (w : World) : Calls Tryz.prog 96 #[.int .i64 f] w fun e w' => e = .returned (.int .u64 (leastV f)) ∧ w' = w := by
  unfold leastV
  by_cases h : f = 3
  · subst h
    go_enter Tryz.func96, Tryz.ntmps96
    go_wp2
    go_ret
    exact ⟨rfl, rfl⟩
  · have hb : (f == 3) = false := by simp [h]
    rw [if_neg h]
    clear h
    go_enter Tryz.func96, Tryz.ntmps96
    go_wp2
    go_ret
    exact ⟨rfl, rfl⟩
set_option maxHeartbeats 1000000 in
theorem maySet_any (f : Int) (w : World) (hd : Cd w) : Calls Tryz.prog 95 #[.int .i64 f] w fun e w' => e = .returned (.bool (!(codeV f == 0))) ∧ Below w.heap.size w w' := by
  have HC : Hid (Calls Tryz.prog 100 #[.int .i64 f] w fun e w' => e = .returned (.int .i64 (codeV f)) ∧ Below w.heap.size w w') := codeOf_any f w hd
  generalize codeV f = c at *
  go_enter Tryz.func95, Tryz.ntmps95
  go_wp2_with fail
  refine HC.out.mono ?_
  rintro x w1 ⟨rfl, g1⟩
  go_wp2_with fail
  go_ret
  exact ⟨rfl, g1⟩
theorem C3.gr1 (w : World) (t : A) (n : GrT (tx w t)) : C3 n.w w.heap.size 0 t := C3.gr (C3.new w t) (by simp) n
set_option maxHeartbeats 4000000 in
theorem right_five (f v : Int) (w : World) (hd : Cd w) :
    Calls Tryz.prog 88 #[tV (5, f, v)] w fun e w' => e = .returned (.bool (rightB (5, f, v))) ∧ Below w.heap.size w w' := by
  have HM : Hid (∀ w, Cd w → Calls Tryz.prog 95 #[.int .i64 f] w fun e w' => e = .returned (.bool (!(codeV f == 0))) ∧ Below w.heap.size w w') := (show ∀ w, _ from fun w h => maySet_any f w h)
  have HL : Hid (∀ w, Calls Tryz.prog 96 #[.int .i64 f] w fun e w' => e = .returned (.int .u64 (leastV f)) ∧ w' = w) := (show ∀ w, _ from fun w => least_any f w)
  have HG : Hid (∀ w, Calls Tryz.prog 97 #[.int .i64 f] w fun e w' => e = .returned (.int .u64 (grV f)) ∧ w' = w) := (show ∀ w, _ from fun w => greatest_any f w)
  have HD : Hid (∀ n : GrT (tx w (5, f, v)), Cd n.w) := (show ∀ n : GrT (tx w (5, f, v)), Cd n.w from fun n => (hd.alloc _).below n.h)
  have q := C3.gr1 w (5, f, v)
  have q0 := fun n => (q n).1
  have q1 := fun n => (q n).2.1
  have q2 := fun n => (q n).2.2
  have hR : rightB (5, f, v) = (!(codeV f == 0) && (decide (leastV f ≤ v) && decide (v ≤ grV f))) := by simp [rightB]
  rw [hR]
  clear q hd hR
  generalize grV f = G at *
  generalize leastV f = L at *
  cases hc : (codeV f == 0) with
  | true =>
    rw [hc] at HM
    simp only [Bool.not_true, Bool.false_and] at HM ⊢
    go_enter Tryz.func88, Tryz.ntmps88
    go_wp2_with fail
    refine wp_region_grow (by kernel_rfl) (by kernel_rfl) ?_
    repeat (go_big_quiet_step ((first | (go_at_call 95; exact quiet_gr (HM.out _ (HD.out _))) | (go_at_call 96; exact quiet_gs (HL.out _)) | (go_at_call 97; exact quiet_gs (HG.out _)))))
    refine wpQuiet_nil ?_
    rintro w1 hw'
    have g1 := gr_elim hw'
    clear q0 q1 q2 hw'
    go_wp2_with fail
    go_ret
    exact ⟨rfl, btr (by go_grown) g1 (by simp)⟩
  | false =>
    rw [hc] at HM
    simp only [Bool.not_false, Bool.true_and] at HM ⊢
    by_cases h1 : L ≤ v
    · have d1 : decide (L ≤ v) = true := decide_eq_true h1
      rw [d1, Bool.true_and]
      go_enter Tryz.func88, Tryz.ntmps88
      go_wp2_with fail
      refine wp_region_grow (by kernel_rfl) (by kernel_rfl) ?_
      repeat (go_big_quiet_step ((first | (go_at_call 95; exact quiet_gr (HM.out _ (HD.out _))) | (go_at_call 96; exact quiet_gs (HL.out _)) | (go_at_call 97; exact quiet_gs (HG.out _)))))
      refine wpQuiet_nil ?_
      rintro w1 hw'
      have g1 := gr_elim hw'
      clear q0 q1 q2 hw'
      go_wp2_with fail
      go_ret
      exact ⟨rfl, btr (by go_grown) g1 (by simp)⟩
    · have d1 : decide (L ≤ v) = false := decide_eq_false h1
      rw [d1, Bool.false_and]
      go_enter Tryz.func88, Tryz.ntmps88
      go_wp2_with fail
      refine wp_region_grow (by kernel_rfl) (by kernel_rfl) ?_
      repeat (go_big_quiet_step ((first | (go_at_call 95; exact quiet_gr (HM.out _ (HD.out _))) | (go_at_call 96; exact quiet_gs (HL.out _)) | (go_at_call 97; exact quiet_gs (HG.out _)))))
      refine wpQuiet_nil ?_
      rintro w1 hw'
      have g1 := gr_elim hw'
      clear q0 q1 q2 hw'
      go_wp2_with fail
      go_ret
      exact ⟨rfl, btr (by go_grown) g1 (by simp)⟩
set_option maxHeartbeats 4000000 in
theorem right_any (a : A) (w : World) (hd : Cd w) :
    Calls Tryz.prog 88 #[tV a] w fun e w' => e = .returned (.bool (rightB a)) ∧ Below w.heap.size w w' := by
  obtain ⟨k, f, v⟩ := a
  rcases kind_cases k with rfl | rfl | rfl | rfl | rfl | ⟨b1, b2, b3, b4, b5⟩
  · clear hd
    have hR : rightB (1, f, v) = (f == 0 && (decide (1 ≤ v) && decide (v ≤ 4294967295))) := by simp [rightB]
    rw [hR]
    clear hR
    cases hf : (f == 0)
    · go_enter Tryz.func88, Tryz.ntmps88
      go_wp2
      go_ret
      exact ⟨rfl, by go_grown⟩
    · cases d1 : decide (1 ≤ v)
      · go_enter Tryz.func88, Tryz.ntmps88
        go_wp2
        go_ret
        exact ⟨rfl, by go_grown⟩
      · cases d2 : decide (v ≤ 4294967295) <;>
        · go_enter Tryz.func88, Tryz.ntmps88
          go_wp2
          go_ret
          exact ⟨rfl, by go_grown⟩
  · clear hd
    have hR : rightB (2, f, v) = (f == 0 && (decide (1 ≤ v) && decide (v ≤ 4294967295))) := by simp [rightB]
    rw [hR]
    clear hR
    cases hf : (f == 0)
    · go_enter Tryz.func88, Tryz.ntmps88
      go_wp2
      go_ret
      exact ⟨rfl, by go_grown⟩
    · cases d1 : decide (1 ≤ v)
      · go_enter Tryz.func88, Tryz.ntmps88
        go_wp2
        go_ret
        exact ⟨rfl, by go_grown⟩
      · cases d2 : decide (v ≤ 4294967295) <;>
        · go_enter Tryz.func88, Tryz.ntmps88
          go_wp2
          go_ret
          exact ⟨rfl, by go_grown⟩
  · clear hd
    have hR : rightB (3, f, v) = (f == 0 && v == 0) := by simp [rightB]
    rw [hR]
    clear hR
    cases hf : (f == 0) <;> cases hv : (v == 0) <;>
    · go_enter Tryz.func88, Tryz.ntmps88
      go_wp2
      go_ret
      exact ⟨rfl, by go_grown⟩
  · clear hd
    have hR : rightB (4, f, v) = (f == 0 && v == 0) := by simp [rightB]
    rw [hR]
    clear hR
    cases hf : (f == 0) <;> cases hv : (v == 0) <;>
    · go_enter Tryz.func88, Tryz.ntmps88
      go_wp2
      go_ret
      exact ⟨rfl, by go_grown⟩
  · exact right_five f v w hd
  · clear hd
    have hR : rightB (k, f, v) = false := by
      simp at b1 b2 b3 b4 b5
      simp [rightB, b1, b2, b3, b4, b5]
    rw [hR]
    clear hR
    go_enter Tryz.func88, Tryz.ntmps88
    go_wp2
    go_ret
    exact ⟨rfl, by go_grown⟩
end Go.Proofs.YtjjfhibkcngphaaGreatDoor
