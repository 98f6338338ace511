/-
  What place, cmp.Compare and byPlace answer, as contracts.
-/
import Derived.Test.YtmlonfchbkmbcabDoorBase
namespace Go.Proofs.YtmlonfchbkmbcabDoor
open Go.ChangeShapes Go.WideShapes Go.ChangeAt Go.RowKit

theorem kind_cases (k : Int) : k = 1 ∨ k = 2 ∨ k = 3 ∨ k = 4 ∨ k = 5 ∨ ((k == 1) = false ∧ (k == 2) = false ∧ (k == 3) = false ∧ (k == 4) = false ∧ (k == 5) = false) := by
  by_cases h1 : k = 1
  · exact .inl h1
  by_cases h2 : k = 2
  · exact .inr (.inl h2)
  by_cases h3 : k = 3
  · exact .inr (.inr (.inl h3))
  by_cases h4 : k = 4
  · exact .inr (.inr (.inr (.inl h4)))
  by_cases h5 : k = 5
  · exact .inr (.inr (.inr (.inr (.inl h5))))
  exact .inr (.inr (.inr (.inr (.inr ⟨by simpa using h1, by simpa using h2, by simpa using h3, by simpa using h4, by simpa using h5⟩))))
theorem place_none {k : Int} (h1 : (k == 1) = false) (h2 : (k == 2) = false) (h3 : (k == 3) = false) (h4 : (k == 4) = false) (h5 : (k == 5) = false) : placeV k = 0 := by
  simp at h1 h2 h3 h4 h5
  unfold placeV
  simp [h1, h2, h3, h4, h5]
set_option maxHeartbeats 1000000 in
theorem place_any (k : Int) (w : World) : Calls Tryd.prog 45 #[.int .i64 k] w fun e w' => e = .returned (.int .i64 (placeV k)) ∧ w' = w := by
  rcases kind_cases k with rfl | rfl | rfl | rfl | rfl | ⟨b1, b2, b3, b4, b5⟩
  case inr.inr.inr.inr.inr =>
    rw [place_none b1 b2 b3 b4 b5]
    go_enter Tryd.func45, Tryd.ntmps45
    go_wp2
    go_ret
    exact ⟨rfl, rfl⟩
  all_goals
    go_enter Tryd.func45, Tryd.ntmps45
    go_wp2
    go_ret
    exact ⟨rfl, rfl⟩
set_option maxHeartbeats 1000000 in
theorem isNaN_any (x : Int) (w : World) : Calls Tryd.prog 70 #[.int .i64 x] w fun e w' => e = .returned (.bool false) ∧ w' = w := by
  go_enter Tryd.func70, Tryd.ntmps70
  go_wp2
  go_ret
  simp
set_option maxHeartbeats 1000000 in
theorem compare_any (x y : Int) (w : World) : Calls Tryd.prog 48 #[.int .i64 x, .int .i64 y] w fun e w' => e = .returned (.int .i64 (cmpV x y)) ∧ w' = w := by
  have HN : Hid (∀ x w, Calls Tryd.prog 70 #[.int .i64 x] w fun e w' => e = .returned (.bool false) ∧ w' = w) := isNaN_any
  unfold cmpV
  by_cases h1 : x < y
  · rw [if_pos h1]
    go_enter Tryd.func48, Tryd.ntmps48
    go_wp2_with fail
    refine (HN.out _ _).mono ?_
    rintro r w1 ⟨rfl, rfl⟩
    go_wp2_with fail
    refine (HN.out _ _).mono ?_
    rintro r w1 ⟨rfl, rfl⟩
    go_wp2_with fail
    go_ret
    exact ⟨rfl, rfl⟩
  · rw [if_neg h1]
    by_cases h2 : y < x
    · rw [if_pos h2]
      go_enter Tryd.func48, Tryd.ntmps48
      go_wp2_with fail
      refine (HN.out _ _).mono ?_
      rintro r w1 ⟨rfl, rfl⟩
      go_wp2_with fail
      refine (HN.out _ _).mono ?_
      rintro r w1 ⟨rfl, rfl⟩
      go_wp2_with fail
      go_ret
      exact ⟨rfl, rfl⟩
    · rw [if_neg h2]
      go_enter Tryd.func48, Tryd.ntmps48
      go_wp2_with fail
      refine (HN.out _ _).mono ?_
      rintro r w1 ⟨rfl, rfl⟩
      go_wp2_with fail
      refine (HN.out _ _).mono ?_
      rintro r w1 ⟨rfl, rfl⟩
      go_wp2_with fail
      go_ret
      exact ⟨rfl, rfl⟩
set_option maxHeartbeats 2000000 in
theorem byPlace_any (a b : A) (w : World) : Calls Tryd.prog 28 #[tV a, tV b] w fun e w' => e = .returned (.int .i64 (bpV a b)) ∧ Below w.heap.size w w' := by
  have HC : Hid (∀ x y w, Calls Tryd.prog 48 #[.int .i64 x, .int .i64 y] w fun e w' => e = .returned (.int .i64 (cmpV x y)) ∧ w' = w) := compare_any
  have HP : Hid (∀ k w, Calls Tryd.prog 45 #[.int .i64 k] w fun e w' => e = .returned (.int .i64 (placeV k)) ∧ w' = w) := place_any
  unfold bpV
  cases h1 : (a.1 == 5) with
  | true =>
    cases h2 : (b.1 == 5) with
    | true =>
      have e1 : a.1 = 5 := by simpa using h1
      have e2 : b.1 = 5 := by simpa using h2
      rw [if_pos ⟨e1, e2⟩]
      clear e1 e2
      go_enter Tryd.func28, Tryd.ntmps28
      go_wp2_with fail
      refine (HC.out _ _ _).mono ?_
      rintro r w1 ⟨rfl, rfl⟩
      go_wp2_with fail
      go_ret
      exact ⟨rfl, by go_grown⟩
    | false =>
      have e2 : ¬ b.1 = 5 := by simpa using h2
      rw [if_neg (fun x => e2 x.2)]
      clear e2
      go_enter Tryd.func28, Tryd.ntmps28
      go_wp2_with fail
      go_quiet ((first | (go_at_call 45; exact Calls.quiet_of_same (HP.out _ _)) | (go_at_call 48; exact Calls.quiet_of_same (HC.out _ _ _))))
      go_wp2_with fail
      go_ret
      exact ⟨rfl, bdr (by go_grown) _⟩
  | false =>
    have e1 : ¬ a.1 = 5 := by simpa using h1
    rw [if_neg (fun x => e1 x.1)]
    clear e1
    go_enter Tryd.func28, Tryd.ntmps28
    go_wp2_with fail
    go_quiet ((first | (go_at_call 45; exact Calls.quiet_of_same (HP.out _ _)) | (go_at_call 48; exact Calls.quiet_of_same (HC.out _ _ _))))
    go_wp2_with fail
    go_ret
    exact ⟨rfl, bdr (by go_grown) _⟩
end Go.Proofs.YtmlonfchbkmbcabDoor
