/-
  What the document's bucket does: contracts as of the program's own.
-/
import Derived.Test.YtkbcbijaejmfdaaBucket
namespace Go.Proofs.Ytkbcbijaejmfdaa
open Go.ChangeShapes Go.WideShapes Go.ChangeAt Go.RowKit

set_option maxHeartbeats 1000000 in
theorem rnew_no (r m : Int) (w : World) (h : (mayB r && mayB m) = false) :
    Calls Try.prog 10 #[.int .i64 r, .int .i64 m] w fun x w' => x = .returned (.tuple #[.pointer none, .int .i64 1]) ∧ w' = w := by
  have h' : r < 0 ∨ (0 ≤ r ∧ 4294967295 < r) ∨ (0 ≤ r ∧ r ≤ 4294967295 ∧ m < 0) ∨ (0 ≤ r ∧ r ≤ 4294967295 ∧ 0 ≤ m ∧ 4294967295 < m) := by
    unfold mayB at h
    simp only [Bool.and_eq_false_iff, decide_eq_false_iff_not] at h
    omega
  clear h
  rcases h' with h1 | ⟨h1, h2⟩ | ⟨h1, h2, h3⟩ | ⟨h1, h2, h3, h4⟩
  all_goals
    go_enter Try.func10, Try.ntmps10
    go_wp2
    go_ret2
    exact ⟨rfl, rfl⟩
set_option maxHeartbeats 400000 in
theorem rnew_yes (r m : Int) (w : World) (h1 : mayB r = true) (h2 : mayB m = true) :
    Calls Try.prog 10 #[.int .i64 r, .int .i64 m] w fun x w' => x = .returned (.tuple #[.pointer (some ⟨w.heap.size, 0, none⟩), .int .i64 0]) ∧ w' = w.alloc (.cells #[.int .i64 r, .int .i64 m, .int .i64 m] 38) := by
  obtain ⟨f1, f2, f3, f4, f5⟩ := mayB_fit h1 h2
  clear h1 h2
  go_enter Try.func10, Try.ntmps10
  go_wp2
  go_ret2
  exact ⟨rfl, rfl⟩

theorem need_yes {r m l t : Int} (f : Fit r m l) (hr : 0 < r) (ht : 0 ≤ t) (h : (m - l + r - 1) / r ≤ t) : tickL r m l t = m := by
  obtain ⟨a, b, c, d, e⟩ := f
  have h1 : (m - l + r - 1) / r < t + 1 := by omega
  have h2 := (Int.ediv_lt_iff_lt_mul hr).mp h1
  have h3 : (t + 1) * r = r * t + r := by rw [Int.add_mul, Int.one_mul, Int.mul_comm]
  unfold tickL
  rw [if_neg (by omega), if_pos (by omega)]
theorem need_no {r m l t : Int} (f : Fit r m l) (hr : 0 < r) (ht : 0 ≤ t) (h : t < (m - l + r - 1) / r) : 0 ≤ r * t ∧ r * t ≤ m - l ∧ tickL r m l t = l + r * t := by
  obtain ⟨a, b, c, d, e⟩ := f
  have h0 := Int.mul_nonneg a ht
  have h2 := (Int.le_ediv_iff_mul_le hr).mp (by omega : t + 1 ≤ (m - l + r - 1) / r)
  have h3 : (t + 1) * r = r * t + r := by rw [Int.add_mul, Int.one_mul, Int.mul_comm]
  refine ⟨h0, by omega, ?_⟩
  unfold tickL
  rw [if_neg (by omega), if_neg (by omega)]

set_option maxHeartbeats 2000000 in
theorem rtick_any (b : Nat) (r m l t : Int) (w : World) (k : Bk w b r m l) (f : Fit r m l) :
    Calls Try.prog 13 #[.pointer (some ⟨b, 0, none⟩), .int .i64 t] w fun x w' => x = .returned (.int .i64 (argE t)) ∧ Bk w' b r m (tickL r m l t) ∧ Only b w w' := by
  have K := k
  have F := f
  obtain ⟨c0, c1, c2, fz⟩ := k
  obtain ⟨f1, f2, f3, f4, f5⟩ := f
  by_cases ht : t < 0
  · have e1 : argE t = 1 := if_pos ht
    have e2 : tickL r m l t = l := if_pos ht
    rw [e1, e2]
    clear e1 e2
    go_enter Try.func13, Try.ntmps13
    go_wp2
    go_ret
    exact ⟨rfl, K, Only.refl _ _⟩
  · have e1 : argE t = 0 := if_neg ht
    rw [e1]
    clear e1
    by_cases hr : 0 < r
    · by_cases hn : (m - l + r - 1) / r ≤ t
      · rw [need_yes F hr (by omega) hn]
        go_enter Try.func13, Try.ntmps13
        go_wp2
        go_quiet (fail)
        go_wp2
        go_ret
        exact ⟨rfl, (K.drewN _).set _, ((Only.refl _ _).drewN _).setCell _ _⟩
      · obtain ⟨p0, p1, p2⟩ := need_no (t := t) F hr (by omega) (by omega)
        rw [p2]
        clear p2
        go_enter Try.func13, Try.ntmps13
        go_wp2
        go_quiet (fail)
        go_wp2
        go_region
        all_goals go_wp2
        all_goals go_ret
        all_goals exact ⟨rfl, (K.drewN _).set _, ((Only.refl _ _).drewN _).setCell _ _⟩
    · have hz : r = 0 := by omega
      have e2 : tickL r m l t = l := by unfold tickL; rw [hz, if_neg ht, Int.zero_mul]; split <;> omega
      rw [e2]
      clear e2
      subst hz
      go_enter Try.func13, Try.ntmps13
      go_wp2
      go_ret
      exact ⟨rfl, K, Only.refl _ _⟩

set_option maxHeartbeats 1000000 in
theorem rtake_any (b : Nat) (r m l n : Int) (w : World) (k : Bk w b r m l) (f : Fit r m l) :
    Calls Try.prog 15 #[.pointer (some ⟨b, 0, none⟩), .int .i64 n] w fun x w' => x = .returned (.tuple #[.bool (takB l n), .int .i64 (argE n)]) ∧ Bk w' b r m (takeL l n) ∧ Only b w w' := by
  have K := k
  obtain ⟨c0, c1, c2, fz⟩ := k
  obtain ⟨f1, f2, f3, f4, f5⟩ := f
  by_cases hn : n < 0
  · have e1 : argE n = 1 := if_pos hn
    have e2 : takeL l n = l := if_neg (by omega)
    have e3 : takB l n = false := by unfold takB; simp; omega
    rw [e1, e2, e3]
    clear e1 e2 e3
    go_enter Try.func15, Try.ntmps15
    go_wp2
    go_ret2
    exact ⟨rfl, K, Only.refl _ _⟩
  · have e1 : argE n = 0 := if_neg hn
    rw [e1]
    clear e1
    by_cases hl : n ≤ l
    · have e2 : takeL l n = l - n := if_pos ⟨by omega, hl⟩
      have e3 : takB l n = true := by unfold takB; simp; omega
      rw [e2, e3]
      clear e2 e3
      go_enter Try.func15, Try.ntmps15
      go_wp2
      go_ret2
      exact ⟨rfl, K.set _, (Only.refl _ _).setCell _ _⟩
    · have e2 : takeL l n = l := if_neg (by omega)
      have e3 : takB l n = false := by unfold takB; simp; omega
      rw [e2, e3]
      clear e2 e3
      go_enter Try.func15, Try.ntmps15
      go_wp2
      go_ret2
      exact ⟨rfl, K, Only.refl _ _⟩
end Go.Proofs.Ytkbcbijaejmfdaa
