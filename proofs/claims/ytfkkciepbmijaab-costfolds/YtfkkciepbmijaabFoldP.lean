/-
  What spoils a row's sum. Plain mathematics, nothing of the program.
-/
import Derived.Test.YtfkkciepbmijaabSums
namespace Go.Proofs.Ytfkkciepbmijaab

/-- One of a row is no cost. -/
def wrongB (l : List Nat) : Bool := l.any fun x => !rightB x
theorem wrongB_snoc (l : List Nat) (x : Nat) : wrongB (l ++ [x]) = (wrongB l || !rightB x) := by unfold wrongB; simp
theorem sum_wrong (n : Nat) : ∀ l : List Nat, l.length = n → wrongB l = true → sumL l = infR := by
  induction n with
  | zero => intro l h g; rw [List.length_eq_zero_iff.1 h] at g; exact absurd g (by decide)
  | succ n ih =>
    intro l h g
    rcases List.eq_nil_or_concat l with e | ⟨m, x, e⟩
    · rw [e] at h; cases h
    · rw [e, List.concat_eq_append] at h g ⊢
      rw [sumL_snoc]
      rw [wrongB_snoc] at g
      cases hx : rightB x
      · exact add_no _ _ (.inr hx)
      · rw [hx] at g
        rw [ih m (by simpa using h) (by simpa using g)]
        exact add_no _ _ (.inl (by decide))
end Go.Proofs.Ytfkkciepbmijaab
