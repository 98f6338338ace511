/-
  What the order of a row is: each place once, none behind one that it is ahead of, alike ones by their places; the least one comes first. Plain mathematics, nothing of the program.
-/
import Derived.Test.YtfkkciepbmijaabOrdP
import Derived.Test.YtfkkciepbmijaabLeast
namespace Go.Proofs.Ytfkkciepbmijaab

theorem places_lt (n : Nat) : (places n).Pairwise (· < ·) := by
  unfold places
  rw [List.pairwise_map]
  exact List.pairwise_lt_range.imp (fun h => by simpa using h)
theorem ordL_nodup (l : List Nat) : (ordL l).Nodup := by
  have h : (places l.length).Nodup := (places_lt _).imp (fun h => Int.ne_of_lt h)
  exact (isort_perm _ _).nodup_iff.2 h
/-- Alike ones stand by their places. -/
theorem ordL_alike (l : List Nat) {i j : Nat} (hi : i < (ordL l).length) (hj : j < (ordL l).length) (hij : i < j) (h : kp l (ordL l)[i] = kp l (ordL l)[j]) : (ordL l)[i] < (ordL l)[j] := by
  have h1 : (fc (kp l) (kp l (ordL l)[j]) (ordL l)).Pairwise (· < ·) := by
    unfold ordL
    rw [isort_fc]
    exact (places_lt _).filter _
  have h2 := List.pairwise_filter.1 h1
  exact List.pairwise_iff_getElem.1 h2 i j hi hj hij (by simpa using h) (by simp)
theorem ordL_sorted (l : List Nat) {i j : Nat} (hi : i < (ordL l).length) (hj : j < (ordL l).length) (hij : i < j) : kp l (ordL l)[i] ≤ kp l (ordL l)[j] :=
  List.pairwise_iff_getElem.1 (isort_sorted (κ := kp l) (places l.length)) i j hi hj hij
theorem kp_nat (l : List Nat) (p : Nat) : kp l (p : Int) = ky (l.getD p 0) := by unfold kp; simp
/-- What the least one of the first k is. -/
theorem lstN_is (l : List Nat) : ∀ k, 0 < k → 0 ≤ lstN l k ∧ lstN l k < k ∧ ∀ j : Nat, j < k → kp l (lstN l k) ≤ kp l (j : Int) ∧ ((j : Int) < lstN l k → kp l (lstN l k) < kp l (j : Int))
  | 0, h => by omega
  | k + 1, _ => by
    have hn : lstN l (k + 1) = if decide (lstN l k < 0) || lessB (l.getD k 0) (l.getD (lstN l k).toNat 0) then (k : Int) else lstN l k := rfl
    by_cases h0 : k = 0
    · subst h0
      have : lstN l (0 + 1) = 0 := by rw [hn]; rfl
      rw [this]
      refine ⟨by omega, by omega, fun j hj => ?_⟩
      have : j = 0 := by omega
      subst this
      exact ⟨Int.le_refl _, fun h => by simp at h⟩
    · obtain ⟨i1, i2, i3⟩ := lstN_is l k (by omega)
      obtain ⟨m, hm⟩ : ∃ m : Nat, lstN l k = (m : Int) := ⟨(lstN l k).toNat, by omega⟩
      rw [hm] at hn i1 i2 i3
      rw [decide_eq_false (by omega), Bool.false_or, Int.toNat_natCast] at hn
      by_cases c : lessB (l.getD k 0) (l.getD m 0) = true
      · rw [if_pos c] at hn
        have hc : kp l (k : Int) < kp l (m : Int) := by rw [kp_nat, kp_nat]; exact of_decide_eq_true c
        rw [hn]
        refine ⟨by omega, by omega, fun j hj => ?_⟩
        by_cases e : j = k
        · subst e; exact ⟨Int.le_refl _, fun h => by omega⟩
        · have := (i3 j (by omega)).1
          exact ⟨by omega, fun _ => by omega⟩
      · rw [if_neg c] at hn
        have hc : ¬ kp l (k : Int) < kp l (m : Int) := by rw [kp_nat, kp_nat]; exact fun h => c (decide_eq_true h)
        rw [hn]
        refine ⟨by omega, by omega, fun j hj => ?_⟩
        by_cases e : j = k
        · subst e; exact ⟨by omega, fun h => by omega⟩
        · exact i3 j (by omega)
/-- The least one comes first. -/
theorem first_is (l : List Nat) (h : 0 < (ordL l).length) : leastN l = (ordL l)[0] := by
  have hl : 0 < l.length := by rw [ordL_len] at h; exact h
  obtain ⟨h1, h2, h3⟩ := lstN_is l l.length hl
  have h4 : leastN l = lstN l l.length := rfl
  rw [← h4] at h1 h2 h3
  have hmem : leastN l ∈ ordL l := by
    refine (isort_mem _ _ _).2 ?_
    unfold places
    refine List.mem_map.2 ⟨(leastN l).toNat, List.mem_range.2 (by omega), ?_⟩
    show ((leastN l).toNat : Int) = _
    omega
  obtain ⟨j, hj, hje⟩ := List.getElem_of_mem hmem
  by_cases e : j = 0
  · subst e; exact hje.symm
  · exfalso
    have ha := ordL_aw l _ (List.getElem_mem h)
    have hlo := ha.lo
    have hhi := ha.hi
    obtain ⟨p, hp⟩ : ∃ p : Nat, (ordL l)[0] = (p : Int) := ⟨(ordL l)[0].toNat, by omega⟩
    have s1 := ordL_sorted l h hj (by omega)
    have s2 := ordL_alike l h hj (by omega)
    rw [hp] at hhi
    have s3 := h3 p (by omega)
    rw [hje, hp] at s1 s2
    by_cases c : kp l (p : Int) = kp l (leastN l)
    · have := s2 c
      have := s3.2 this
      omega
    · omega
end Go.Proofs.Ytfkkciepbmijaab
