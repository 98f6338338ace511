/-
  Lists in the order of a number, what is alike in the order in which it came: the plain mathematics (nothing of the program).
-/
import Derived.WalkKit
namespace Go.Proofs.Ytfkkciepbmijaab
/-- A place. -/
abbrev A := Int
section
variable (κ : A → Int)

/-- What has one number. -/
abbrev fc (c : Int) (l : List A) : List A := l.filter fun x => decide (κ x = c)
/-- Each class stands as it stood. -/
def Cl (d d' : List A) : Prop := ∀ c, fc κ c d' = fc κ c d
def at' (d : List A) (i : Nat) : A := d.getD i default
def ka (d : List A) (i : Nat) : Int := κ (at' d i)
def Srt (a b : Nat) (d : List A) : Prop := ∀ i j, a ≤ i → i < j → j < b → ka κ d i ≤ ka κ d j
structure Rel (a b : Nat) (d d' : List A) : Prop where
  len : d'.length = d.length
  out : ∀ i, i < a ∨ b ≤ i → at' d' i = at' d i
  cl : Cl κ d d'
def swp (d : List A) (i j : Nat) : List A := (d.set i (at' d j)).set j (at' d i)

variable {κ}
theorem Cl.refl (d : List A) : Cl κ d d := fun _ => rfl
theorem Cl.trans {d e f : List A} (h : Cl κ d e) (g : Cl κ e f) : Cl κ d f := fun c => (g c).trans (h c)
theorem Rel.refl (a b : Nat) (d : List A) : Rel κ a b d d := ⟨rfl, fun _ _ => rfl, Cl.refl d⟩
theorem Rel.trans {a b : Nat} {d e f : List A} (h : Rel κ a b d e) (g : Rel κ a b e f) : Rel κ a b d f := ⟨g.len.trans h.len, fun i hi => (g.out i hi).trans (h.out i hi), h.cl.trans g.cl⟩
theorem Rel.mono {a b a' b' : Nat} {d e : List A} (h : Rel κ a b d e) (ha : a' ≤ a) (hb : b ≤ b') : Rel κ a' b' d e := ⟨h.len, fun i hi => h.out i (by omega), h.cl⟩
theorem Rel.ka {a b : Nat} {d e : List A} (h : Rel κ a b d e) (i : Nat) (hi : i < a ∨ b ≤ i) : ka κ e i = ka κ d i := by unfold Go.Proofs.Ytfkkciepbmijaab.ka; rw [h.out i hi]
theorem at_get (d : List A) (i : Nat) (h : i < d.length) : at' d i = d[i] := by unfold at'; simp [List.getD_eq_getElem?_getD, h]
theorem at_set (l : List A) (i j : Nat) (x : A) (hi : i < l.length) : at' (l.set i x) j = if i = j then x else at' l j := by
  unfold at'
  simp only [List.getD_eq_getElem?_getD, List.getElem?_set]
  split <;> simp_all
theorem swp_len (d : List A) (i j : Nat) : (swp d i j).length = d.length := by simp [swp]
theorem swp_at (d : List A) (i j t : Nat) (hi : i < d.length) (hj : j < d.length) : at' (swp d i j) t = if j = t then at' d i else if i = t then at' d j else at' d t := by
  unfold swp
  rw [at_set _ _ _ _ (by simpa using hj), at_set _ _ _ _ hi]
theorem list_at {d : List A} {i : Nat} (h : i < d.length) : d = d.take i ++ at' d i :: d.drop (i + 1) := by
  rw [at_get d i h, ← List.drop_eq_getElem_cons h, List.take_append_drop]
/-- Two places of a list that is laid apart there. -/
theorem swp_parts (x q y : List A) (e f : A) : swp (x ++ e :: (q ++ f :: y)) x.length (x.length + 1 + q.length) = x ++ f :: (q ++ e :: y) := by
  have h1 : at' (x ++ e :: (q ++ f :: y)) x.length = e := by unfold at'; simp [List.getD_eq_getElem?_getD]
  have h2 : at' (x ++ e :: (q ++ f :: y)) (x.length + 1 + q.length) = f := by
    unfold at'
    rw [List.getD_eq_getElem?_getD, List.getElem?_append_right (by omega), show x.length + 1 + q.length - x.length = q.length + 1 by omega]
    simp
  unfold swp
  rw [h1, h2]
  rw [List.set_append_right _ _ (by omega), Nat.sub_self, List.set_cons_zero]
  rw [List.set_append_right _ _ (by omega), show x.length + 1 + q.length - x.length = q.length + 1 by omega, List.set_cons_succ]
  rw [List.set_append_right _ _ (by omega), Nat.sub_self, List.set_cons_zero]
theorem cl_two (x y : List A) (e f : A) (h : κ e ≠ κ f) : Cl κ (x ++ e :: f :: y) (x ++ f :: e :: y) := by
  intro c
  simp only [fc, List.filter_append, List.filter_cons]
  by_cases h1 : κ e = c <;> by_cases h2 : κ f = c
  · exact absurd (h1.trans h2.symm) h
  all_goals simp [h1, h2]
/-- Two neighbours that are not alike. -/
theorem rel_swap (d : List A) (i : Nat) (h : i + 1 < d.length) (hk : ka κ d i ≠ ka κ d (i + 1)) (a b : Nat) (ha : a ≤ i) (hb : i + 2 ≤ b) : Rel κ a b d (swp d (i + 1) i) ∧ swp d (i + 1) i = swp d i (i + 1) := by
  have e1 := list_at (d := d) (i := i) (by omega)
  have e2 : d.drop (i + 1) = at' d (i + 1) :: d.drop (i + 2) := by rw [at_get d (i + 1) h, ← List.drop_eq_getElem_cons h]
  have hs : swp d (i + 1) i = swp d i (i + 1) := by
    apply List.ext_getElem (by rw [swp_len, swp_len])
    intro t h1 h2
    have := swp_at d (i + 1) i t (by omega) (by omega)
    have g := swp_at d i (i + 1) t (by omega) (by omega)
    rw [at_get _ _ h1] at this
    rw [at_get _ _ h2] at g
    rw [this, g]
    by_cases q : i = t
    · subst q; simp
    · by_cases r : i + 1 = t <;> simp [q, r]
  refine ⟨⟨swp_len _ _ _, fun t ht => ?_, ?_⟩, hs⟩
  · rw [swp_at d (i + 1) i t (by omega) (by omega), if_neg (by omega), if_neg (by omega)]
  · rw [hs]
    have hl : (d.take i).length = i := by rw [List.length_take]; omega
    have e3 : swp d i (i + 1) = d.take i ++ at' d (i + 1) :: at' d i :: d.drop (i + 2) := by
      have := swp_parts (d.take i) [] (d.drop (i + 2)) (at' d i) (at' d (i + 1))
      simp only [List.nil_append, List.length_nil, Nat.add_zero] at this
      rw [hl] at this
      rw [← this]
      congr 1
      rw [← e2]
      exact e1
    rw [e3]
    have e4 : d = d.take i ++ at' d i :: at' d (i + 1) :: d.drop (i + 2) := by rw [← e2]; exact e1
    intro c
    conv => rhs; rw [e4]
    exact cl_two (κ := κ) (d.take i) (d.drop (i + 2)) (at' d i) (at' d (i + 1)) hk c
theorem ka_swap (d : List A) (i t : Nat) (h : i + 1 < d.length) : ka κ (swp d (i + 1) i) t = if i = t then ka κ d (i + 1) else if i + 1 = t then ka κ d i else ka κ d t := by
  unfold ka
  rw [swp_at d (i + 1) i t (by omega) (by omega)]
  by_cases h1 : i = t
  · rw [if_pos h1, if_pos h1]
  · rw [if_neg h1, if_neg h1]
    by_cases h2 : i + 1 = t
    · rw [if_pos h2, if_pos h2]
    · rw [if_neg h2, if_neg h2]

/-- The inner loop of an insertion: all but what stands at j is in order, and what is behind j is behind it. -/
structure Ins (a i j : Nat) (d : List A) : Prop where
  le : ∀ p q, a ≤ p → p < q → q ≤ i → p ≠ j → q ≠ j → ka κ d p ≤ ka κ d q
  lt : ∀ q, j < q → q ≤ i → ka κ d j < ka κ d q
theorem Ins.start {a i : Nat} {d : List A} (h : Srt κ a i d) : Ins (κ := κ) a i i d := ⟨fun p q h1 h2 h3 h4 h5 => h p q h1 h2 (by omega), fun q h1 h2 => by omega⟩
theorem Ins.stop {a i j : Nat} {d : List A} (h : Ins (κ := κ) a i j d) (hj : j ≤ i) (hs : j ≤ a ∨ ka κ d (j - 1) ≤ ka κ d j) : Srt κ a (i + 1) d := by
  intro p q h1 h2 h3
  by_cases e : p = j
  · subst e; exact Int.le_of_lt (h.lt q h2 (by omega))
  · by_cases f : q = j
    · subst f
      rcases hs with hs | hs
      · omega
      · by_cases g : p = q - 1
        · subst g; exact hs
        · exact Int.le_trans (h.le p (q - 1) h1 (by omega) (by omega) e (by omega)) hs
    · exact h.le p q h1 h2 (by omega) e f
theorem Ins.step {a i j : Nat} {d : List A} (h : Ins (κ := κ) a i (j + 1) d) (ha : a ≤ j) (hj : j + 1 ≤ i) (hi : i < d.length) (hs : ka κ d (j + 1) < ka κ d j) : Ins (κ := κ) a i j (swp d (j + 1) j) := by
  constructor
  · intro p q h1 h2 h3 h4 h5
    rw [ka_swap d j p (by omega), ka_swap d j q (by omega)]
    rw [if_neg (Ne.symm h4), if_neg (Ne.symm h5)]
    by_cases e : j + 1 = p
    · rw [if_pos e, if_neg (by omega)]
      exact h.le j q (by omega) (by omega) h3 (by omega) (by omega)
    · rw [if_neg e]
      by_cases f : j + 1 = q
      · rw [if_pos f]
        exact h.le p j h1 (by omega) (by omega) (by omega) (by omega)
      · rw [if_neg f]
        exact h.le p q h1 h2 h3 (Ne.symm e) (Ne.symm f)
  · intro q h1 h2
    rw [ka_swap d j j (by omega), ka_swap d j q (by omega), if_pos rfl, if_neg (by omega)]
    by_cases f : j + 1 = q
    · rw [if_pos f]; exact hs
    · rw [if_neg f]; exact h.lt q (by omega) h2
theorem Srt.one (a b : Nat) (d : List A) (h : b ≤ a + 1) : Srt κ a b d := fun i j h1 h2 h3 => by omega
end
end Go.Proofs.Ytfkkciepbmijaab
