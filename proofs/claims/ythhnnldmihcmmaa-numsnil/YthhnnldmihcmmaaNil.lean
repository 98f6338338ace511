/-
  What the methods of a nil reader answer, and the law NumsNil's walk.
-/
import Derived.Test.YthhnnldmihcmmaaPut
namespace Go.Proofs.Ythhnnldmihcmmaa
open Go.ChangeShapes Go.WideShapes Go.ChangeAt Go.RowKit

set_option maxHeartbeats 400000 in
theorem take_nil (n : Int) (b : Bool) (w : World) :
    Calls Try.prog 21 #[.pointer none, .int .i64 n, .bool b] w fun e w' => e = .returned (.string ⟨#[]⟩) ∧ w' = w := by
  go_enter Try.func21, Try.ntmps21
  go_wp2
  go_ret
  exact ⟨rfl, rfl⟩

set_option maxHeartbeats 400000 in
theorem number_nil (w : World) :
    Calls Try.prog 22 #[.string ⟨#[]⟩] w fun e w' => e = .returned (.int .u64 0) ∧ w' = w := by
  go_enter Try.func22, Try.ntmps22
  go_wp2
  go_rounds 1
  go_ret
  exact ⟨rfl, rfl⟩

set_option maxHeartbeats 400000 in
theorem num_nil (n : Int) (w : World) :
    Calls Try.prog 14 #[.pointer none, .int .i64 n] w fun e w' => e = .returned (.int .u64 0) ∧ w' = w := by
  go_enter Try.func14, Try.ntmps14
  go_wp2_with (first
   | (go_at_call 20; refine (isSize_any _ _).mono ?_; rintro e w' ⟨rfl, rfl⟩)
   | (go_at_call 21; refine (take_nil _ _ _).mono ?_; rintro e w' ⟨rfl, rfl⟩)
   | (go_at_call 22; refine (number_nil _).mono ?_; rintro e w' ⟨rfl, rfl⟩))
  go_ret
  exact ⟨rfl, rfl⟩

set_option maxHeartbeats 400000 in
theorem bytes_nil (n : Int) (w : World) :
    Calls Try.prog 12 #[.pointer none, .int .i64 n] w fun e w' => e = .returned (.string ⟨#[]⟩) ∧ w' = w := by
  go_enter Try.func12, Try.ntmps12
  go_wp2_with (go_at_call 21; refine (take_nil _ _ _).mono ?_; rintro e w' ⟨rfl, rfl⟩)
  go_ret
  exact ⟨rfl, rfl⟩

set_option maxHeartbeats 400000 in
theorem nil_walk (n : Int) (w : World) (_ : (Lit.int .i64 n).wf = true) :
    Calls Try.prog 7 #[.int .i64 n] w fun e w' => e = .returned (.bool true) ∧ Below w.heap.size w w' := by
  go_enter Try.func7, Try.ntmps7
  go_wp2_with (first
   | (go_at_call 14; refine (num_nil _ _).mono ?_; rintro e w' ⟨rfl, rfl⟩)
   | (go_at_call 12; refine (bytes_nil _ _).mono ?_; rintro e w' ⟨rfl, rfl⟩)
   | (go_at_call 10; refine (awake_any _).mono ?_; rintro e w' ⟨rfl, g1⟩)
   | go_in)
  go_ret
  exact ⟨rfl, by assumption⟩
end Go.Proofs.Ythhnnldmihcmmaa
