/-
  Actions, when they are right, and the bytes that they are: the plain mathematics (nothing of the program).
-/
import Derived.Test.YteodlkgbakkjmaaDoorAct
namespace Go.Proofs.YteodlkgbakkjmaaDoor

theorem cls9 {f : Int} (h : ¬ (f < 1 ∨ 9 < f)) : f = 1 ∨ f = 2 ∨ f = 3 ∨ f = 4 ∨ f = 5 ∨ f = 6 ∨ f = 7 ∨ f = 8 ∨ f = 9 := by omega
/-- A field's bits, and the greatest number of so many. -/
def wdV (f : Int) : Int := if f = 2 then 64 else if f = 1 ∨ f = 5 ∨ f = 6 then 32 else if f = 4 ∨ f = 8 ∨ f = 9 then 16 else if f = 3 then 13 else if f = 7 then 8 else 0
def grV (f : Int) : Int := if f = 2 then 18446744073709551615 else if f = 1 ∨ f = 5 ∨ f = 6 then 4294967295 else if f = 4 ∨ f = 8 ∨ f = 9 then 65535 else if f = 3 then 8191 else if f = 7 then 255 else 0
theorem none_of {f : Int} (h : f < 1 ∨ 9 < f) : (f == 1) = false ∧ (f == 2) = false ∧ (f == 3) = false ∧ (f == 4) = false ∧ (f == 5) = false ∧ (f == 6) = false ∧ (f == 7) = false ∧ (f == 8) = false ∧ (f == 9) = false := by
  refine ⟨?_, ?_, ?_, ?_, ?_, ?_, ?_, ?_, ?_⟩ <;> (rw [beq_eq_false_iff_ne]; omega)
theorem wdV_none {f : Int} (h : f < 1 ∨ 9 < f) : wdV f = 0 := by unfold wdV; repeat (rw [if_neg (by omega)])
theorem grV_none {f : Int} (h : f < 1 ∨ 9 < f) : grV f = 0 := by unfold grV; repeat (rw [if_neg (by omega)])
theorem wdV_pos {f : Int} (h : ¬ (f < 1 ∨ 9 < f)) : wdV f ≠ 0 := by rcases cls9 h with rfl | rfl | rfl | rfl | rfl | rfl | rfl | rfl | rfl <;> decide
theorem wdV_zero (f : Int) : wdV f = 0 ↔ (f < 1 ∨ 9 < f) := ⟨fun h => Decidable.byContradiction fun g => wdV_pos g h, wdV_none⟩
theorem grV_lt (f : Int) : 0 ≤ grV f ∧ grV f < 18446744073709551616 := by unfold grV; (repeat' split) <;> omega
/-- A field's code, the least number of a Set of it, and whether an action is right. -/
def codeV (f : Int) : Int := if f = 3 then 6 else if f = 5 then 11 else if f = 6 then 12 else if f = 8 then 13 else if f = 9 then 14 else 0
def leastV (f : Int) : Int := if f = 3 then 4096 else 0
def rightB (a : A) : Bool :=
  if a.1 = 1 ∨ a.1 = 2 then a.2.1 == 0 && (decide (1 ≤ a.2.2) && decide (a.2.2 ≤ 4294967295))
  else if a.1 = 3 ∨ a.1 = 4 then a.2.1 == 0 && a.2.2 == 0
  else if a.1 = 5 then !(codeV a.2.1 == 0) && (decide (leastV a.2.1 ≤ a.2.2) && decide (a.2.2 ≤ grV a.2.1)) else false
/-- The five ways of a right action. -/
theorem right_cases {a : A} (h : rightB a = true) : (a.1 = 1 ∧ a.2.1 = 0 ∧ 1 ≤ a.2.2 ∧ a.2.2 ≤ 4294967295) ∨ (a.1 = 2 ∧ a.2.1 = 0 ∧ 1 ≤ a.2.2 ∧ a.2.2 ≤ 4294967295) ∨ (a.1 = 3 ∧ a.2.1 = 0 ∧ a.2.2 = 0) ∨ (a.1 = 4 ∧ a.2.1 = 0 ∧ a.2.2 = 0) ∨
    (a.1 = 5 ∧ (a.2.1 = 3 ∨ a.2.1 = 5 ∨ a.2.1 = 6 ∨ a.2.1 = 8 ∨ a.2.1 = 9) ∧ leastV a.2.1 ≤ a.2.2 ∧ a.2.2 ≤ grV a.2.1) := by
  unfold rightB at h
  split at h
  · next hk =>
    simp only [Bool.and_eq_true, beq_iff_eq, decide_eq_true_eq] at h
    omega
  · split at h
    · next hk =>
      simp only [Bool.and_eq_true, beq_iff_eq] at h
      omega
    · split at h
      · next hk =>
        simp only [Bool.and_eq_true, Bool.not_eq_true', beq_eq_false_iff_ne, decide_eq_true_eq] at h
        obtain ⟨h1, h2, h3⟩ := h
        refine .inr (.inr (.inr (.inr ⟨hk, ?_, h2, h3⟩)))
        unfold codeV at h1
        revert h1
        (repeat' split) <;> omega
      · cases h
def allB (l : List A) : Bool := l.all rightB
end Go.Proofs.YteodlkgbakkjmaaDoor
