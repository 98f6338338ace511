/-
  What right and all that it calls answer, as contracts.
-/
import Derived.Test.YteodlkgbakkjmaaDoorGMem
import Derived.Test.YteodlkgbakkjmaaDoorRight
import Derived.BigQuiet
import Derived.Deep.QuietTactic
namespace Go.Proofs.YteodlkgbakkjmaaDoor
open Go.ChangeShapes Go.WideShapes Go.ChangeAt Go.RowKit
set_option linter.unusedVariables false

def inB (n lo hi : Int) : Bool := decide (lo ≤ n) && decide (n ≤ hi)
def fewV (k : Int) : Int := if k = 3 then 1 else 0
def mostV (k : Int) : Int := if k = 3 then 1 else 16
def lwV (k : Int) : Int := if k = 4 then 1 else 0
/-- Whether a bucket may be in a group of a Kind; whether a group may be but for its actions; whether its actions may be. -/
def bkB (k : Int) (b : B3) : Bool := decide ((b.2.2.length : Int) ≤ 8) && inB b.1 (lwV k) 16 && inB b.2.1 0 65535
def headB (id k : Int) (n : Nat) : Bool := inB id 1 65535 && inB k 1 4 && inB n (fewV k) (mostV k)
def formB (id k : Int) (l : List B3) : Bool := headB id k l.length && l.all (bkB k)
def actsB (l : List B3) : Bool := l.all fun b => allB b.2.2
def rightE (p : Int × Int × List B3) : Int := if formB p.1 p.2.1 p.2.2 = true then (if actsB p.2.2 = true then 0 else 22) else 24
set_option maxHeartbeats 1000000 in
theorem within_any (n lo hi : Int) (w : World) : Calls Tryd.prog 27 #[.int .i64 n, .int .i64 lo, .int .i64 hi] w fun e w' => e = .returned (.bool (inB n lo hi)) ∧ w' = w := by
  unfold inB
  cases h : decide (lo ≤ n) <;>
  · go_enter Tryd.func27, Tryd.ntmps27
    go_wp2
    go_ret
    exact ⟨rfl, rfl⟩
theorem kind4 (k : Int) : k = 1 ∨ k = 2 ∨ k = 3 ∨ k = 4 ∨ ((k == 1) = false ∧ (k == 2) = false ∧ (k == 3) = false ∧ (k == 4) = false ∧ inB k 1 4 = false) := by
  by_cases h1 : k = 1
  · exact .inl h1
  by_cases h2 : k = 2
  · exact .inr (.inl h2)
  by_cases h3 : k = 3
  · exact .inr (.inr (.inl h3))
  by_cases h4 : k = 4
  · exact .inr (.inr (.inr (.inl h4)))
  refine .inr (.inr (.inr (.inr ⟨by simpa using h1, by simpa using h2, by simpa using h3, by simpa using h4, ?_⟩)))
  unfold inB
  by_cases h : 1 ≤ k
  · have : ¬ k ≤ 4 := by omega
    simp [this]
  · simp [h]
set_option maxHeartbeats 1000000 in
theorem isKind_any (k : Int) (w : World) : Calls Tryd.prog 60 #[.int .i64 k] w fun e w' => e = .returned (.bool (inB k 1 4)) ∧ w' = w := by
  rcases kind4 k with rfl | rfl | rfl | rfl | ⟨b1, b2, b3, b4, h⟩
  case inr.inr.inr.inr =>
    rw [h]
    clear h
    go_enter Tryd.func60, Tryd.ntmps60
    go_wp2
    go_ret
    exact ⟨rfl, rfl⟩
  all_goals
    go_enter Tryd.func60, Tryd.ntmps60
    go_wp2
    go_ret
    exact ⟨rfl, rfl⟩
set_option maxHeartbeats 1000000 in
theorem fewest_any (k : Int) (w : World) : Calls Tryd.prog 61 #[.int .i64 k] w fun e w' => e = .returned (.int .i64 (fewV k)) ∧ w' = w := by
  unfold fewV
  by_cases h : k = 3
  · subst h
    go_enter Tryd.func61, Tryd.ntmps61
    go_wp2
    go_ret
    exact ⟨rfl, rfl⟩
  · have hb : (k == 3) = false := by simp [h]
    rw [if_neg h]
    clear h
    go_enter Tryd.func61, Tryd.ntmps61
    go_wp2
    go_ret
    exact ⟨rfl, rfl⟩
set_option maxHeartbeats 1000000 in
theorem most_any (k : Int) (w : World) : Calls Tryd.prog 62 #[.int .i64 k] w fun e w' => e = .returned (.int .i64 (mostV k)) ∧ w' = w := by
  unfold mostV
  by_cases h : k = 3
  · subst h
    go_enter Tryd.func62, Tryd.ntmps62
    go_wp2
    go_ret
    exact ⟨rfl, rfl⟩
  · have hb : (k == 3) = false := by simp [h]
    rw [if_neg h]
    clear h
    go_enter Tryd.func62, Tryd.ntmps62
    go_wp2
    go_ret
    exact ⟨rfl, rfl⟩
set_option maxHeartbeats 1000000 in
theorem leastWatch_any (k : Int) (w : World) : Calls Tryd.prog 68 #[.int .i64 k] w fun e w' => e = .returned (.int .i64 (lwV k)) ∧ w' = w := by
  unfold lwV
  by_cases h : k = 4
  · subst h
    go_enter Tryd.func68, Tryd.ntmps68
    go_wp2
    go_ret
    exact ⟨rfl, rfl⟩
  · have hb : (k == 4) = false := by simp [h]
    rw [if_neg h]
    clear h
    go_enter Tryd.func68, Tryd.ntmps68
    go_wp2
    go_ret
    exact ⟨rfl, rfl⟩
set_option maxHeartbeats 4000000 in
theorem rightBucket_any (k : Int) (b : Bk) (w : World) : Calls Tryd.prog 63 #[.int .i64 k, bkV b] w fun e w' => e = .returned (.bool (bkB k b.b3)) ∧ Below w.heap.size w w' := by
  have HW : Hid (∀ n lo hi w, Calls Tryd.prog 27 #[.int .i64 n, .int .i64 lo, .int .i64 hi] w fun e w' => e = .returned (.bool (inB n lo hi)) ∧ w' = w) := (show ∀ n lo hi w, _ from within_any)
  have HL : Hid (∀ w, Calls Tryd.prog 68 #[.int .i64 k] w fun e w' => e = .returned (.int .i64 (lwV k)) ∧ w' = w) := (show ∀ w, _ from fun w => leastWatch_any k w)
  have q := fun n => Cb.gr (Cb.new w b) (by simp) n
  have q0 := fun n => (q n).1
  have q1 := fun n => (q n).2.1
  have q2 := fun n => (q n).2.2
  have hR : bkB k b.b3 = (decide ((b.l.length : Int) ≤ 8) && inB b.wa (lwV k) 16 && inB b.we 0 65535) := rfl
  rw [hR]
  clear q hR
  generalize lwV k = L at *
  cases h1 : decide ((b.l.length : Int) ≤ 8) with
  | false =>
    go_enter Tryd.func63, Tryd.ntmps63
    go_wp2_with fail
    refine wp_region_grow (by kernel_rfl) (by kernel_rfl) ?_
    repeat (go_big_quiet_step ((first | (go_at_call 27; exact quiet_gs (HW.out _ _ _ _)) | (go_at_call 68; exact quiet_gs (HL.out _)))))
    refine wpQuiet_nil ?_
    rintro w1 hw'
    have g1 := gr_elim hw'
    clear q0 q1 q2 hw'
    go_wp2_with fail
    go_ret
    exact ⟨rfl, btr (by go_grown) g1 (by simp)⟩
  | true =>
    cases h2 : inB b.wa L 16 with
    | false =>
      go_enter Tryd.func63, Tryd.ntmps63
      go_wp2_with fail
      refine wp_region_grow (by kernel_rfl) (by kernel_rfl) ?_
      repeat (go_big_quiet_step ((first | (go_at_call 27; exact quiet_gs (HW.out _ _ _ _)) | (go_at_call 68; exact quiet_gs (HL.out _)))))
      refine wpQuiet_nil ?_
      rintro w1 hw'
      have g1 := gr_elim hw'
      clear q0 q1 q2 hw'
      go_wp2_with fail
      go_ret
      exact ⟨rfl, btr (by go_grown) g1 (by simp)⟩
    | true =>
      go_enter Tryd.func63, Tryd.ntmps63
      go_wp2_with fail
      refine wp_region_grow (by kernel_rfl) (by kernel_rfl) ?_
      repeat (go_big_quiet_step ((first | (go_at_call 27; exact quiet_gs (HW.out _ _ _ _)) | (go_at_call 68; exact quiet_gs (HL.out _)))))
      refine wpQuiet_nil ?_
      rintro w1 hw'
      have g1 := gr_elim hw'
      clear q0 q1 q2 hw'
      go_wp2_with fail
      go_ret
      exact ⟨rfl, btr (by go_grown) g1 (by simp)⟩
end Go.Proofs.YteodlkgbakkjmaaDoor
