/-
  TopoNil: what a nil topology answers; the law's function, walked.
-/
import Derived.Test.YtcjojcaahpkacaaOpen
namespace Go.Proofs.Ytcjojcaahpkacaa
open Go.ChangeShapes Go.WideShapes Go.ChangeAt Go.RowKit
set_option linter.unusedVariables false

set_option maxHeartbeats 1000000 in
theorem peer_nil (s p : Int) (w : World) : Calls Try.prog 12 #[.pointer none, .int .i64 s, .int .i64 p] w fun e w' => e = .returned (.tuple #[.int .i64 0, .int .i64 0, .int .i64 0]) ∧ w' = w := by
  go_enter Try.func12, Try.ntmps12
  go_wp2_with (go_at_call 33; refine (has_nil _ _).mono ?_; rintro r w' ⟨rfl, rfl⟩)
  go_ret3
  exact ⟨rfl, rfl⟩
set_option maxHeartbeats 1000000 in
theorem home_nil (k : Int) (w : World) : Calls Try.prog 20 #[.pointer none, .int .i64 k] w fun e w' => e = .returned (.tuple #[.int .i64 0, .int .i64 0]) ∧ w' = w := by
  go_enter Try.func20, Try.ntmps20
  go_wp2
  go_ret2
  exact ⟨rfl, rfl⟩
set_option maxHeartbeats 1000000 in
theorem ports_nil (s : Int) (w : World) : Calls Try.prog 15 #[.pointer none, .int .i64 s] w fun e w' => e = .returned (.slice none 0 0) ∧ w' = w := by
  go_enter Try.func15, Try.ntmps15
  go_wp2_with (go_at_call 33; refine (has_nil _ _).mono ?_; rintro r w' ⟨rfl, rfl⟩)
  go_ret
  exact ⟨rfl, rfl⟩
set_option maxHeartbeats 1000000 in
theorem hosts_nil (w : World) : Calls Try.prog 18 #[.pointer none] w fun e w' => e = .returned (.slice none 0 0) ∧ w' = w := by
  go_enter Try.func18, Try.ntmps18
  go_wp2
  go_ret
  exact ⟨rfl, rfl⟩
set_option maxHeartbeats 1000000 in
theorem cost_nil (k : Int) (w : World) : Calls Try.prog 22 #[.pointer none, .int .i64 k] w fun e w' => e = .returned (.float .f64 0) ∧ w' = w := by
  go_enter Try.func22, Try.ntmps22
  go_wp2
  go_ret
  exact ⟨rfl, rfl⟩
set_option maxHeartbeats 1000000 in
theorem reach_nil (s : Int) (a : Option Addr) (n c : Nat) (w : World) : Calls Try.prog 24 #[.pointer none, .int .i64 s, .slice a n c] w fun e w' => e = .returned (.slice none 0 0) ∧ w' = w := by
  go_enter Try.func24, Try.ntmps24
  go_wp2_with (go_at_call 33; refine (has_nil _ _).mono ?_; rintro r w' ⟨rfl, rfl⟩)
  go_ret
  exact ⟨rfl, rfl⟩
set_option maxRecDepth 20000 in
set_option maxHeartbeats 4000000 in
theorem nil_walk (a b : Int) (w : World) : Calls Try.prog 8 #[.int .i64 a, .int .i64 b] w fun e w' => e = .returned (.bool true) ∧ Below w.heap.size w w' := by
  have HAw : Hid (∀ u, Below w.heap.size w u → Calls Try.prog 9 #[] u fun e w' => e = .returned (.bool true) ∧ Below w.heap.size w w') := (show ∀ u, _ from fun u k => (awake_any u).mono fun e w' ⟨h1, h2⟩ => ⟨h1, btr k h2 (Nat.le_refl _)⟩)
  have hz : (binOp .eql 43 (.float .f64 0) (.float .f64 0) : Sem Value) = pure (.bool true) := (binOp_float_cmp_eql _ _ _ _).trans (by kernel_rfl)
  go_enter Try.func8, Try.ntmps8
  go_wp2_with (first
    | (go_at_call 12; refine (peer_nil _ _ _).mono ?_; rintro r u ⟨rfl, rfl⟩)
    | (go_at_call 20; refine (home_nil _ _).mono ?_; rintro r u ⟨rfl, rfl⟩)
    | (go_at_call 17; refine (size_nil _).mono ?_; rintro r u ⟨rfl, rfl⟩)
    | (go_at_call 15; refine (ports_nil _ _).mono ?_; rintro r u ⟨rfl, rfl⟩)
    | (go_at_call 18; refine (hosts_nil _).mono ?_; rintro r u ⟨rfl, rfl⟩)
    | (go_at_call 22; refine (cost_nil _ _).mono ?_; rintro r u ⟨rfl, rfl⟩)
    | (go_at_call 24; refine (reach_nil _ _ _ _ _).mono ?_; rintro r u ⟨rfl, rfl⟩)
    | (go_at_call 9; refine (HAw.out _ (by go_grown)).mono ?_; rintro r u ⟨rfl, hb⟩; have HB : Hid (Below _ _ u) := hb; clear hb))
  go_ret
  exact ⟨rfl, HB.out⟩
end Go.Proofs.Ytcjojcaahpkacaa
