/-
  Two lists that are the same: what nums answers.
-/
import Derived.Test.YtcjojcaahpkacaaOpen
namespace Go.Proofs.Ytcjojcaahpkacaa
open Go.ChangeShapes Go.WideShapes Go.ChangeAt Go.RowKit
set_option linter.unusedVariables false

set_option maxHeartbeats 2000000 in
theorem nums_same (a1 a2 : Option Addr) (xs : List Int) (c1 c2 : Nat) (w : World) (h1 : Is w a1 xs) (h2 : Is w a2 xs) (hx : xs.length ≤ 1000) :
    Calls Try.prog 14 #[.slice a1 xs.length c1, .slice a2 xs.length c2] w fun e w' => e = .returned (.bool true) ∧ Below w.heap.size w w' := by
  have H1 : Hid (∀ u, Below w.heap.size w u → Is u a1 xs ∧ Is u a2 xs) := (show ∀ u, _ from fun u g => ⟨h1.below g, h2.below g⟩)
  clear h1 h2
  go_enter Try.func14, Try.ntmps14
  go_wp2
  go_loopw [5] (fun v5 wr => ∃ k : Nat, k ≤ xs.length ∧ v5 = .int .i64 k ∧ Hid (Below w.heap.size w wr)) (fun v5 _ => xs.length - (intOf v5).toNat)
  case atStart => exact ⟨0, Nat.zero_le _, rfl, (show Below _ _ _ from Below.refl _ _)⟩
  case round =>
    obtain ⟨k, hk, rfl, HB⟩ := hrel
    by_cases hlt : k < xs.length
    · obtain ⟨i1, i2⟩ := H1.out _ HB.out
      obtain ⟨g1, o1, rfl, _, d1⟩ := i1.at hlt
      obtain ⟨g2, o2, rfl, _, d2⟩ := i2.at hlt
      have e1 := d1 k hlt
      have e2 := d2 k hlt
      generalize xs[k] = x at e1 e2
      have HB2 : Hid (∀ n, Below w.heap.size w (wr.drewN n)) := (show ∀ n, _ from fun n => bdr HB.out n)
      clear d1 d2 i1 i2
      go_wp2
      go_quiet (fail)
      go_wp2
      go_roundw
      case rel => exact ⟨k + 1, by omega, by go_num, HB2.out _⟩
      case measure => simp [intOf]; omega
    · go_wp2
      go_ret
      exact ⟨rfl, HB.out⟩
end Go.Proofs.Ytcjojcaahpkacaa
