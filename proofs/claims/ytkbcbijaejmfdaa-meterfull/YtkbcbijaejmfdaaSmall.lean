/-
  The walks of the laws MeterNil and MeterFull.
-/
import Derived.Test.YtkbcbijaejmfdaaBucket
namespace Go.Proofs.Ytkbcbijaejmfdaa
open Go.ChangeShapes Go.WideShapes Go.ChangeAt Go.RowKit

set_option maxHeartbeats 1000000 in
theorem nil_walk (n : Int) (w : World) (_ : (Lit.int .i64 n).wf = true) :
    Calls Try.prog 6 #[.int .i64 n] w fun x w' => x = .returned (.bool true) ∧ Below w.heap.size w w' := by
  go_enter Try.func6, Try.ntmps6
  go_wp2_with (first
   | (go_at_call 14; refine (take_nil _ _).mono ?_; rintro x w' ⟨rfl, rfl⟩)
   | (go_at_call 12; refine (tick_nil _ _).mono ?_; rintro x w' ⟨rfl, rfl⟩)
   | (go_at_call 16; refine (left_nil _).mono ?_; rintro x w' ⟨rfl, rfl⟩)
   | (go_at_call 11; refine (awake_any _).mono ?_; rintro x w' ⟨rfl, g1⟩))
  go_ret
  exact ⟨rfl, by assumption⟩

set_option maxHeartbeats 1000000 in
theorem full_walk (r m n : Int) (w : World) (_ : (Lit.int .i64 r).wf = true) (_ : (Lit.int .i64 m).wf = true) (_ : (Lit.int .i64 n).wf = true) :
    Calls Try.prog 7 #[.int .i64 r, .int .i64 m, .int .i64 n] w fun x w' => x = .returned (.bool true) ∧ Below w.heap.size w w' := by
  cases hm : (mayB r && mayB m)
  · go_enter Try.func7, Try.ntmps7
    go_wp2_with (first
     | (go_at_call 9; refine (new_no _ _ _ hm).mono ?_; rintro x w' ⟨rfl, rfl⟩)
     | (go_at_call 11; refine (awake_any _).mono ?_; rintro x w' ⟨rfl, g1⟩))
    go_ret
    exact ⟨rfl, by assumption⟩
  · obtain ⟨h1, h2⟩ : mayB r = true ∧ mayB m = true := by simpa using hm
    have f := mayB_fit h1 h2
    obtain ⟨f1, f2, f3, f4, f5⟩ := id f
    have k0 := Bk.new w r m m 46
    have b0 : Below w.heap.size w (w.alloc (.cells #[.int .i64 r, .int .i64 m, .int .i64 m] 46)) := (Below.refl _ _).alloc (Nat.le_refl _) _
    clear hm
    have hn : n < 0 ∨ (0 ≤ n ∧ m < n) ∨ (0 ≤ n ∧ n ≤ m) := by omega
    go_enter Try.func7, Try.ntmps7
    go_wp2_with fail
    refine (new_yes r m _ h1 h2).mono ?_
    rintro x w1 ⟨rfl, e1⟩
    rw [← e1] at k0 b0
    clear e1 h1 h2
    go_wp2_with fail
    refine (left_any w.heap.size r m m _ k0).mono ?_
    rintro x w2 ⟨rfl, rfl⟩
    go_wp2_with fail
    refine (take_any w.heap.size r m m n _ k0 f).mono ?_
    rintro x w3 ⟨rfl, k3, o3⟩
    have b3 := o3.below (Nat.le_refl _) b0
    clear o3 b0 k0
    rcases hn with hn | ⟨hn, hl⟩ | ⟨hn, hl⟩
    · have e1 : argE n = 1 := if_pos hn
      have e2 : takeL m n = m := if_neg (by omega)
      have e3 : takB m n = false := by unfold takB; simp; omega
      rw [e2] at k3
      rw [e1, e3]
      clear e1 e2 e3
      go_wp2_with (first
       | (go_at_call 16; refine (left_any w.heap.size r m _ _ k3).mono ?_; rintro x w' ⟨rfl, rfl⟩)
       | (go_at_call 11; refine (awake_any _).mono ?_; rintro x w' ⟨rfl, g1⟩))
      go_ret
      exact ⟨rfl, btrans b3 (by assumption)⟩
    · have e1 : argE n = 0 := if_neg (by omega)
      have e2 : takeL m n = m := if_neg (by omega)
      have e3 : takB m n = false := by unfold takB; simp; omega
      rw [e2] at k3
      rw [e1, e3]
      clear e1 e2 e3
      go_wp2_with (first
       | (go_at_call 16; refine (left_any w.heap.size r m _ _ k3).mono ?_; rintro x w' ⟨rfl, rfl⟩)
       | (go_at_call 11; refine (awake_any _).mono ?_; rintro x w' ⟨rfl, g1⟩))
      go_ret
      exact ⟨rfl, btrans b3 (by assumption)⟩
    · have e1 : argE n = 0 := if_neg (by omega)
      have e2 : takeL m n = m - n := if_pos ⟨by omega, hl⟩
      have e3 : takB m n = true := by unfold takB; simp; omega
      rw [e2] at k3
      rw [e1, e3]
      clear e1 e2 e3
      go_wp2_with (first
       | (go_at_call 16; refine (left_any w.heap.size r m _ _ k3).mono ?_; rintro x w' ⟨rfl, rfl⟩)
       | (go_at_call 11; refine (awake_any _).mono ?_; rintro x w' ⟨rfl, g1⟩))
      go_ret
      exact ⟨rfl, btrans b3 (by assumption)⟩
end Go.Proofs.Ytkbcbijaejmfdaa
