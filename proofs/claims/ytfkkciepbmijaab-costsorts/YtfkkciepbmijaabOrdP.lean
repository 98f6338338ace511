/-
  The places of a row in order: the plain mathematics (nothing of the program).
-/
import Derived.Test.YtfkkciepbmijaabSKey
import Derived.Test.YtfkkciepbmijaabMrg
namespace Go.Proofs.Ytfkkciepbmijaab

def places (n : Nat) : List Int := (List.range n).map Int.ofNat
def ordL (l : List Nat) : List Int := isort (kp l) (places l.length)
theorem places_len (n : Nat) : (places n).length = n := by simp [places]
theorem places_at (n i : Nat) (h : i < n) : at' (places n) i = (i : Int) := by
  rw [at_get _ _ (by rw [places_len]; exact h)]
  simp [places]
theorem places_aw (l : List Nat) : AWs l (places l.length) := fun x hx => by
  unfold places at hx
  obtain ⟨i, hi, rfl⟩ := List.mem_map.1 hx
  have := List.mem_range.1 hi
  exact ⟨by simp, by simp; omega⟩
/-- Each class has as many in the one as in the other, so the lengths are the same. -/
theorem isort_mem (κ : A → Int) (l : List A) (x : A) : x ∈ isort κ l ↔ x ∈ l := by
  have e : ∀ m : List A, x ∈ m ↔ x ∈ fc κ (κ x) m := fun m => by simp [fc]
  rw [e, isort_fc, ← e]
theorem ins_perm (κ : A → Int) (x : A) : ∀ l : List A, (ins κ x l).Perm (x :: l)
  | [] => List.Perm.refl _
  | y :: t => by
    unfold ins
    split
    · exact ((ins_perm κ x t).cons y).trans (List.Perm.swap x y t)
    · exact List.Perm.refl _
theorem isort_snoc (κ : A → Int) (l : List A) (x : A) : isort κ (l ++ [x]) = ins κ x (isort κ l) := by unfold isort; rw [List.foldl_append]; rfl
theorem isort_perm (κ : A → Int) (l : List A) : (isort κ l).Perm l := by
  have : ∀ n, ∀ l : List A, l.length = n → (isort κ l).Perm l := fun n => by
    induction n with
    | zero => intro l h; rw [List.length_eq_zero_iff.1 h]; exact List.Perm.refl _
    | succ n ih =>
      intro l h
      rcases List.eq_nil_or_concat l with e | ⟨m, x, e⟩
      · rw [e] at h; cases h
      · rw [e, List.concat_eq_append] at h ⊢
        rw [isort_snoc]
        refine (ins_perm κ x _).trans ?_
        refine ((ih m (by simpa using h)).cons x).trans ?_
        have := List.perm_append_comm (l₁ := [x]) (l₂ := m)
        simpa using this
  exact this _ l rfl
theorem isort_len (κ : A → Int) (l : List A) : (isort κ l).length = l.length := (isort_perm κ l).length_eq
theorem ordL_len (l : List Nat) : (ordL l).length = l.length := by unfold ordL; rw [isort_len, places_len]
theorem ordL_aw (l : List Nat) : AWs l (ordL l) := fun x hx => places_aw l x ((isort_mem _ _ _).1 hx)
/-- Where one more goes. -/
theorem ins_at (κ : A → Int) (x : A) : ∀ (l : List A) (k : Nat), k ≤ l.length → (∀ j (h : j < l.length), j < k → κ l[j] ≤ κ x) → (∀ j (h : j < l.length), k ≤ j → κ x < κ l[j]) → ins κ x l = l.take k ++ (x :: l.drop k)
  | [], k, hk, _, _ => by simp at hk; subst hk; rfl
  | y :: t, 0, _, _, h2 => by
    have := h2 0 (by simp) (Nat.zero_le _)
    unfold ins
    rw [if_neg (by simp at this; omega)]
    rfl
  | y :: t, k + 1, hk, h1, h2 => by
    have := h1 0 (by simp) (by omega)
    unfold ins
    rw [if_pos (by simpa using this)]
    rw [ins_at κ x t k (by simp at hk; omega) (fun j h hj => by have := h1 (j + 1) (by simp; omega) (by omega); simpa using this) (fun j h hj => by have := h2 (j + 1) (by simp; omega) (by omega); simpa using this)]
    rfl
theorem places_succ (n : Nat) : places (n + 1) = places n ++ [(n : Int)] := by unfold places; rw [List.range_succ, List.map_append]; rfl
end Go.Proofs.Ytfkkciepbmijaab
