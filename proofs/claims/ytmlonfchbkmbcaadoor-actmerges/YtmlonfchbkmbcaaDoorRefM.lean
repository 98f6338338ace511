/-
  The document's place, alike and ahead: what they answer, as contracts.
-/
import Derived.Test.YtmlonfchbkmbcaaDoorPlace
namespace Go.Proofs.YtmlonfchbkmbcaaDoor
open Go.ChangeShapes Go.WideShapes Go.ChangeAt Go.RowKit

set_option maxHeartbeats 2000000 in
theorem rplace_any (a : A) (w : World) : Calls Tryd.prog 41 #[tV a] w fun e w' => e = .returned (.int .i64 (placeV a.1 - 1)) ∧ Below w.heap.size w w' := by
  obtain ⟨k, f, v⟩ := a
  rcases kind_cases k with rfl | rfl | rfl | rfl | rfl | ⟨b1, b2, b3, b4, b5⟩
  case inr.inr.inr.inr.inr =>
    rw [place_none b1 b2 b3 b4 b5]
    go_enter Tryd.func41, Tryd.ntmps41
    go_wp2
    go_ret
    exact ⟨rfl, by go_grown⟩
  all_goals
    go_enter Tryd.func41, Tryd.ntmps41
    go_wp2
    go_ret
    exact ⟨rfl, by go_grown⟩
set_option maxHeartbeats 2000000 in
theorem alike_any (a b : A) (w : World) : Calls Tryd.prog 42 #[tV a, tV b] w fun e w' => e = .returned (.bool (alikeB a b)) ∧ Below w.heap.size w w' := by
  have hA : alikeB a b = ((a.1 == b.1) && ((a.1 != 5) || (a.2.1 == b.2.1))) := by
    unfold alikeB
    simp only [bne, Bool.beq_eq_decide_eq]
  rw [hA]
  clear hA
  cases h1 : (a.1 == b.1)
  · go_enter Tryd.func42, Tryd.ntmps42
    go_wp2
    go_ret
    exact ⟨rfl, by go_grown⟩
  · cases h2 : (a.1 != 5)
    · cases h3 : (a.2.1 == b.2.1) <;>
      · go_enter Tryd.func42, Tryd.ntmps42
        go_wp2
        go_ret
        exact ⟨rfl, by go_grown⟩
    · go_enter Tryd.func42, Tryd.ntmps42
      go_wp2
      go_ret
      exact ⟨rfl, by go_grown⟩
theorem C3.two1 (w : World) (a b : A) (n : GrT (tx (tx w a) b)) : C3 n.w w.heap.size 0 a := C3.gr (W := tx (tx w a) b) ((C3.new w a).below (by simp) ((Below.refl _ _).alloc (Nat.le_refl _) _)) (by first | (simp; done) | (simp; omega)) n
theorem C3.two2 (w : World) (a b : A) (n : GrT (tx (tx w a) b)) : C3 n.w (w.heap.size + 1) 0 b := C3.gr (W := tx (tx w a) b) (by have := C3.new (tx w a) b; simpa using this) (by simp) n
set_option maxHeartbeats 4000000 in
theorem ahead_any (a b : A) (w : World) : Calls Tryd.prog 43 #[tV a, tV b] w fun e w' => e = .returned (.bool (aheadB a b)) ∧ Below w.heap.size w w' := by
  have HP : Hid (∀ x w, Calls Tryd.prog 41 #[tV x] w fun e w' => e = .returned (.int .i64 (placeV x.1 - 1)) ∧ Below w.heap.size w w') := rplace_any
  have hA : aheadB a b = (decide (placeV a.1 - 1 < placeV b.1 - 1) || ((placeV a.1 - 1 == placeV b.1 - 1) && ((a.1 == 5) && decide (a.2.1 < b.2.1)))) := by
    unfold aheadB
    have e1 : decide (placeV a.1 < placeV b.1) = decide (placeV a.1 - 1 < placeV b.1 - 1) := decide_eq_decide.2 (by omega)
    have e2 : decide (placeV a.1 = placeV b.1) = (placeV a.1 - 1 == placeV b.1 - 1) := by
      rw [Bool.eq_iff_iff]; simp only [decide_eq_true_eq, beq_iff_eq]; omega
    have e3 : decide (a.1 = 5) = (a.1 == 5) := by rw [Bool.eq_iff_iff]; simp
    rw [e1, e2, e3]
  have HPa : Hid (∀ w, Calls Tryd.prog 41 #[tV a] w fun e w' => e = .returned (.int .i64 (placeV a.1 - 1)) ∧ Below w.heap.size w w') := HP.out a
  have HPb : Hid (∀ w, Calls Tryd.prog 41 #[tV b] w fun e w' => e = .returned (.int .i64 (placeV b.1 - 1)) ∧ Below w.heap.size w w') := HP.out b
  rw [hA]
  clear hA HP
  generalize placeV a.1 - 1 = pa at *
  generalize placeV b.1 - 1 = pb at *
  have qa := C3.two1 w a b
  have qb := C3.two2 w a b
  have q0 := fun n => (qa n).1
  have q1 := fun n => (qa n).2.1
  have q2 := fun n => (qa n).2.2
  have r0 := fun n => (qb n).1
  have r1 := fun n => (qb n).2.1
  have r2 := fun n => (qb n).2.2
  clear qa qb
  cases h1 : decide (pa < pb)
  · cases h2 : (pa == pb)
    · go_enter Tryd.func43, Tryd.ntmps43
      go_wp2_with fail
      refine wp_region_grow (by kernel_rfl) (by kernel_rfl) ?_
      repeat (go_big_quiet_step (first | (go_at_call_of 41 (Value.int IntKind.i64 a.1); exact quiet_gr (HPa.out _)) | (go_at_call_of 41 (Value.int IntKind.i64 b.1); exact quiet_gr (HPb.out _))))
      refine wpQuiet_nil ?_
      rintro w1 hw'
      have g1 := gr_elim hw'
      clear q0 q1 q2 r0 r1 r2 hw'
      go_wp2_with fail
      go_ret
      exact ⟨rfl, btr (by go_grown) g1 (by simp)⟩
    · cases h3 : (a.1 == 5)
      · go_enter Tryd.func43, Tryd.ntmps43
        go_wp2_with fail
        refine wp_region_grow (by kernel_rfl) (by kernel_rfl) ?_
        repeat (go_big_quiet_step (first | (go_at_call_of 41 (Value.int IntKind.i64 a.1); exact quiet_gr (HPa.out _)) | (go_at_call_of 41 (Value.int IntKind.i64 b.1); exact quiet_gr (HPb.out _))))
        refine wpQuiet_nil ?_
        rintro w1 hw'
        have g1 := gr_elim hw'
        clear q0 q1 q2 r0 r1 r2 hw'
        go_wp2_with fail
        go_ret
        exact ⟨rfl, btr (by go_grown) g1 (by simp)⟩
      · cases h4 : decide (a.2.1 < b.2.1) <;>
        · go_enter Tryd.func43, Tryd.ntmps43
          go_wp2_with fail
          refine wp_region_grow (by kernel_rfl) (by kernel_rfl) ?_
          repeat (go_big_quiet_step (first | (go_at_call_of 41 (Value.int IntKind.i64 a.1); exact quiet_gr (HPa.out _)) | (go_at_call_of 41 (Value.int IntKind.i64 b.1); exact quiet_gr (HPb.out _))))
          refine wpQuiet_nil ?_
          rintro w1 hw'
          have g1 := gr_elim hw'
          clear q0 q1 q2 r0 r1 r2 hw'
          go_wp2_with fail
          go_ret
          exact ⟨rfl, btr (by go_grown) g1 (by simp)⟩
  · go_enter Tryd.func43, Tryd.ntmps43
    go_wp2_with fail
    refine wp_region_grow (by kernel_rfl) (by kernel_rfl) ?_
    repeat (go_big_quiet_step (first | (go_at_call_of 41 (Value.int IntKind.i64 a.1); exact quiet_gr (HPa.out _)) | (go_at_call_of 41 (Value.int IntKind.i64 b.1); exact quiet_gr (HPb.out _))))
    refine wpQuiet_nil ?_
    rintro w1 hw'
    have g1 := gr_elim hw'
    clear q0 q1 q2 r0 r1 r2 hw'
    go_wp2_with fail
    go_ret
    exact ⟨rfl, btr (by go_grown) g1 (by simp)⟩
end Go.Proofs.YtmlonfchbkmbcaaDoor
