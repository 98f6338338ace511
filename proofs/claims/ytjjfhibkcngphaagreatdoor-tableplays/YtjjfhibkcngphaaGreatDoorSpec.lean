/-
  Actions, when they are right, and the bytes that they are: the plain mathematics (nothing of the program).
-/
import Derived.Test.YtjjfhibkcngphaaGreatDoorNum
import Derived.Test.YtjjfhibkcngphaaGreatDoorAct
namespace Go.Proofs.YtjjfhibkcngphaaGreatDoor

theorem cls9 {f : Int} (h : ¬ (f < 1 ∨ 9 < f)) : f = 1 ∨ f = 2 ∨ f = 3 ∨ f = 4 ∨ f = 5 ∨ f = 6 ∨ f = 7 ∨ f = 8 ∨ f = 9 := by omega
/-- A field's bits, and the greatest number of so many. -/
def wdV (f : Int) : Int := if f = 2 then 64 else if f = 1 ∨ f = 5 ∨ f = 6 then 32 else if f = 4 ∨ f = 8 ∨ f = 9 then 16 else if f = 3 then 13 else if f = 7 then 8 else 0
def grV (f : Int) : Int := if f = 2 then 18446744073709551615 else if f = 1 ∨ f = 5 ∨ f = 6 then 4294967295 else if f = 4 ∨ f = 8 ∨ f = 9 then 65535 else if f = 3 then 8191 else if f = 7 then 255 else 0
theorem none_of {f : Int} (h : f < 1 ∨ 9 < f) : (f == 1) = false ∧ (f == 2) = false ∧ (f == 3) = false ∧ (f == 4) = false ∧ (f == 5) = false ∧ (f == 6) = false ∧ (f == 7) = false ∧ (f == 8) = false ∧ (f == 9) = false := by
  refine ⟨?_, ?_, ?_, ?_, ?_, ?_, ?_, ?_, ?_⟩ <;> (rw [beq_eq_false_iff_ne]; omega)
theorem wdV_none {f : Int} (h : f < 1 ∨ 9 < f) : wdV f = 0 := by unfold wdV; repeat (rw [if_neg (by omega)])
theorem grV_none {f : Int} (h : f < 1 ∨ 9 < f) : grV f = 0 := by unfold grV; repeat (rw [if_neg (by omega)])
theorem wdV_pos {f : Int} (h : ¬ (f < 1 ∨ 9 < f)) : wdV f ≠ 0 := by rcases cls9 h with rfl | rfl | rfl | rfl | rfl | rfl | rfl | rfl | rfl <;> decide
theorem wdV_zero (f : Int) : wdV f = 0 ↔ (f < 1 ∨ 9 < f) := ⟨fun h => Decidable.byContradiction fun g => wdV_pos g h, wdV_none⟩
theorem grV_lt (f : Int) : 0 ≤ grV f ∧ grV f < 18446744073709551616 := by unfold grV; (repeat' split) <;> omega
/-- The lowest bits. -/
theorem and_gr (f a : Int) (hf : ¬ (f < 1 ∨ 9 < f)) (h0 : 0 ≤ a) (h1 : a < 18446744073709551616) : bits .and .u64 a (grV f) = a % (grV f + 1) := by
  rcases cls9 hf with rfl | rfl | rfl | rfl | rfl | rfl | rfl | rfl | rfl
  · exact and_u 32 (by decide) a h0 h1
  · exact and_u 64 (by decide) a h0 h1
  · exact and_u 13 (by decide) a h0 h1
  · exact and_u 16 (by decide) a h0 h1
  · exact and_u 32 (by decide) a h0 h1
  · exact and_u 32 (by decide) a h0 h1
  · exact and_u 8 (by decide) a h0 h1
  · exact and_u 16 (by decide) a h0 h1
  · exact and_u 16 (by decide) a h0 h1
theorem and_gr_iff (f a : Int) (hf : ¬ (f < 1 ∨ 9 < f)) (h0 : 0 ≤ a) (h1 : a < 18446744073709551616) : bits .and .u64 a (grV f) = a ↔ a ≤ grV f := by
  have := (grV_lt f).1
  rw [and_gr f a hf h0 h1]
  constructor
  · intro h
    have := Int.emod_lt_of_pos a (show 0 < grV f + 1 by omega)
    omega
  · intro h
    exact Int.emod_eq_of_lt h0 (by omega)

def szV (f : Int) : Nat := if f = 2 then 8 else if f = 1 ∨ f = 5 ∨ f = 6 then 4 else if f = 4 ∨ f = 8 ∨ f = 9 ∨ f = 3 then 2 else if f = 7 then 1 else 0
theorem szV_eq (f : Int) : (wdV f + 7) / 8 = (szV f : Int) := by
  by_cases h : f < 1 ∨ 9 < f
  · rw [wdV_none h]; unfold szV; repeat (rw [if_neg (by omega)])
    rfl
  · rcases cls9 h with rfl | rfl | rfl | rfl | rfl | rfl | rfl | rfl | rfl <;> rfl
theorem szV_le (f : Int) : szV f ≤ 8 := by unfold szV; (repeat' split) <;> omega
theorem gr_pow {f : Int} (h : ¬ (f < 1 ∨ 9 < f)) : grV f < 256 ^ szV f := by
  rcases cls9 h with rfl | rfl | rfl | rfl | rfl | rfl | rfl | rfl | rfl <;> decide
def zeros (n : Nat) : ByteArray := ⟨(List.replicate n (0 : UInt8)).toArray⟩
theorem zeros_size (n : Nat) : (zeros n).size = n := by simp [zeros, ByteArray.size]
theorem zeros_zero : zeros 0 = ⟨#[]⟩ := rfl
/-- A field's code, the least number of a Set of it, and whether an action is right. -/
def codeV (f : Int) : Int := if f = 3 then 6 else if f = 5 then 11 else if f = 6 then 12 else if f = 8 then 13 else if f = 9 then 14 else 0
def leastV (f : Int) : Int := if f = 3 then 4096 else 0
def rightB (a : A) : Bool :=
  if a.1 = 1 ∨ a.1 = 2 then a.2.1 == 0 && (decide (1 ≤ a.2.2) && decide (a.2.2 ≤ 4294967295))
  else if a.1 = 3 ∨ a.1 = 4 then a.2.1 == 0 && a.2.2 == 0
  else if a.1 = 5 then !(codeV a.2.1 == 0) && (decide (leastV a.2.1 ≤ a.2.2) && decide (a.2.2 ≤ grV a.2.1)) else false
/-- A Kind's number in bytes, and how many bytes it has. -/
def knV (k : Int) : Int := if k = 1 then 0 else if k = 2 then 22 else if k = 3 then 17 else if k = 4 then 18 else 25
def ksV (k : Int) : Nat := if k = 1 ∨ k = 5 then 16 else 8
def bodyV (a : A) : ByteArray :=
  if a.1 = 1 then pb a.2.2 4 ++ pb 65535 2 else if a.1 = 2 then pb a.2.2 4 else if a.1 = 3 then pb 33024 2
  else if a.1 = 5 then pb 32768 2 ++ pb (2 * codeV a.2.1) 1 ++ pb (szV a.2.1 : Int) 1 ++ pb a.2.2 (szV a.2.1) else ⟨#[]⟩
def writeV (a : A) : ByteArray := pb (knV a.1) 2 ++ pb (ksV a.1 : Int) 2 ++ bodyV a ++ zeros (ksV a.1 - 4 - (bodyV a).size)
/-- The five ways of a right action. -/
theorem right_cases {a : A} (h : rightB a = true) : (a.1 = 1 ∧ a.2.1 = 0 ∧ 1 ≤ a.2.2 ∧ a.2.2 ≤ 4294967295) ∨ (a.1 = 2 ∧ a.2.1 = 0 ∧ 1 ≤ a.2.2 ∧ a.2.2 ≤ 4294967295) ∨ (a.1 = 3 ∧ a.2.1 = 0 ∧ a.2.2 = 0) ∨ (a.1 = 4 ∧ a.2.1 = 0 ∧ a.2.2 = 0) ∨
    (a.1 = 5 ∧ (a.2.1 = 3 ∨ a.2.1 = 5 ∨ a.2.1 = 6 ∨ a.2.1 = 8 ∨ a.2.1 = 9) ∧ leastV a.2.1 ≤ a.2.2 ∧ a.2.2 ≤ grV a.2.1) := by
  unfold rightB at h
  split at h
  · next hk =>
    simp only [Bool.and_eq_true, beq_iff_eq, decide_eq_true_eq] at h
    omega
  · split at h
    · next hk =>
      simp only [Bool.and_eq_true, beq_iff_eq] at h
      omega
    · split at h
      · next hk =>
        simp only [Bool.and_eq_true, Bool.not_eq_true', beq_eq_false_iff_ne, decide_eq_true_eq] at h
        obtain ⟨h1, h2, h3⟩ := h
        refine .inr (.inr (.inr (.inr ⟨hk, ?_, h2, h3⟩)))
        unfold codeV at h1
        revert h1
        (repeat' split) <;> omega
      · cases h
theorem encS_len1 (a : A) (h : rightB a = true) : (writeV a).size = ksV a.1 := by
  have p := pb_size
  unfold writeV bodyV
  rcases right_cases h with ⟨h1, h2, h3, h4⟩ | ⟨h1, h2, h3, h4⟩ | ⟨h1, h2, h3⟩ | ⟨h1, h2, h3⟩ | ⟨h1, h2, h3, h4⟩
  · simp [h1, ByteArray.size_append, p, zeros_size, ksV]
  · simp [h1, ByteArray.size_append, p, zeros_size, ksV]
  · simp [h1, ByteArray.size_append, p, zeros_size, ksV]
  · have e0 : (⟨#[]⟩ : ByteArray).size = 0 := rfl
    simp [h1, ByteArray.size_append, p, zeros_size, ksV, e0]
  · have := szV_le a.2.1
    simp [h1, ByteArray.size_append, p, zeros_size, ksV]
    omega
def encL (l : List A) : ByteArray := l.foldr (fun a s => writeV a ++ s) ⟨#[]⟩
def allB (l : List A) : Bool := l.all rightB
def encodeE (l : List A) : Int := if allB l = true then (if l.length ≤ 32 then 0 else 44) else 22
def encodeS (l : List A) : ByteArray := if encodeE l = 0 then encL l else ⟨#[]⟩
end Go.Proofs.YtjjfhibkcngphaaGreatDoor
