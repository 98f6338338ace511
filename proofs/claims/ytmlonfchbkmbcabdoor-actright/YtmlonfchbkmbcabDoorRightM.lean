/-
  What a right action leaves is right to be a frame, if it was.
-/
import Derived.Test.YtmlonfchbkmbcabDoorAwake
import Derived.Test.YtmlonfchbkmbcabDoorFChange
import Derived.Test.YtmlonfchbkmbcabDoorOpenR
import Derived.Test.YtmlonfchbkmbcabDoorGBytes
namespace Go.Proofs.YtmlonfchbkmbcabDoor
open Go.ChangeShapes Go.WideShapes Go.ChangeAt Go.RowKit

/-- The packet in it, as frame's texts have it. -/
abbrev pkOf (s : Sn) : Fr.Pk := ⟨s.to, s.fr, s.vl, s.ty, s.src, s.dst, s.life, s.pro, s.sp, s.dp, s.data⟩
/-- The ways in which a right action changes a packet. -/
theorem change_ways (s : Sn) (a : A) (ha : rightB a = true) : changeV s a = s ∨ changeV s a = { s with vl := 4096 } ∨ changeV s a = { s with vl := 0 } ∨ (∃ v, 4096 ≤ v ∧ v ≤ 8191 ∧ changeV s a = { s with vl := v }) ∨
    (s.ty = 2048 ∧ ∃ v, 0 ≤ v ∧ v ≤ 4294967295 ∧ changeV s a = { s with src := v }) ∨ (s.ty = 2048 ∧ ∃ v, 0 ≤ v ∧ v ≤ 4294967295 ∧ changeV s a = { s with dst := v }) ∨
    (s.ty = 2048 ∧ (s.pro = 6 ∨ s.pro = 17) ∧ ∃ v, 0 ≤ v ∧ v ≤ 65535 ∧ changeV s a = { s with sp := v }) ∨ (s.ty = 2048 ∧ (s.pro = 6 ∨ s.pro = 17) ∧ ∃ v, 0 ≤ v ∧ v ≤ 65535 ∧ changeV s a = { s with dp := v }) := by
  obtain ⟨k, f, v⟩ := a
  rcases right_cases ha with ⟨h1, _⟩ | ⟨h1, _⟩ | ⟨h1, _⟩ | ⟨h1, _⟩ | ⟨h1, h2, h3, h4⟩ <;> simp only at h1 <;> subst h1
  · left; simp [changeV, chS]
  · left; simp [changeV, chS]
  · by_cases hv : s.vl = 0
    · right; left; simp [changeV, chS, chE, pushE, pushS, hv]
    · left; simp [changeV, chE, pushE, hv]
  · by_cases hv : s.vl = 0
    · left; simp [changeV, chE, popE, hv]
    · right; right; left; simp [changeV, chS, chE, popE, popS, hv]
  · simp only at h2 h3 h4
    by_cases he : putE s f v = 0
    · have hc : changeV s (5, f, v) = withV s f v := by simp [changeV, chE, chS, putS, he]
      have hh : hasB s f = true := by
        unfold putE at he
        split at he
        · next h => exact h.2
        · cases he
      rcases h2 with rfl | rfl | rfl | rfl | rfl
      · exact .inr (.inr (.inr (.inl ⟨v, by simpa [leastV] using h3, by simpa [grV] using h4, by rw [hc]; simp [withV]⟩)))
      · refine .inr (.inr (.inr (.inr (.inl ⟨?_, v, by simpa [leastV] using h3, by simpa [grV] using h4, by rw [hc]; simp [withV]⟩))))
        simpa [hasB] using hh
      · refine .inr (.inr (.inr (.inr (.inr (.inl ⟨?_, v, by simpa [leastV] using h3, by simpa [grV] using h4, by rw [hc]; simp [withV]⟩)))))
        simpa [hasB] using hh
      · have h' : s.ty = 2048 ∧ (s.pro = 6 ∨ s.pro = 17) := by simpa [hasB] using hh
        exact .inr (.inr (.inr (.inr (.inr (.inr (.inl ⟨h'.1, h'.2, v, by simpa [leastV] using h3, by simpa [grV] using h4, by rw [hc]; simp [withV]⟩))))))
      · have h' : s.ty = 2048 ∧ (s.pro = 6 ∨ s.pro = 17) := by simpa [hasB] using hh
        exact .inr (.inr (.inr (.inr (.inr (.inr (.inr ⟨h'.1, h'.2, v, by simpa [leastV] using h3, by simpa [grV] using h4, by rw [hc]; simp [withV]⟩))))))
    · left
      have e1 : chE s (5, f, v) = putE s f v := rfl
      unfold changeV
      rw [e1, if_neg he]
theorem right_keep (s : Sn) (a : A) (ha : rightB a = true) (h : Fr.rightB (pkOf s) = true) : Fr.rightB (pkOf (changeV s a)) = true := by
  simp only [Fr.rightB, Bool.and_eq_true] at h
  obtain ⟨⟨⟨⟨⟨h1, h2⟩, h3⟩, h4⟩, h5⟩, h6⟩ := h
  rcases change_ways s a ha with e | e | e | ⟨v, v0, v1, e⟩ | ⟨ht, v, v0, v1, e⟩ | ⟨ht, v, v0, v1, e⟩ | ⟨ht, hp, v, v0, v1, e⟩ | ⟨ht, hp, v, v0, v1, e⟩ <;> rw [e] <;> simp only [Fr.rightB, Bool.and_eq_true]
  · exact ⟨⟨⟨⟨⟨h1, h2⟩, h3⟩, h4⟩, h5⟩, h6⟩
  · exact ⟨⟨⟨⟨⟨h1, h2⟩, by decide⟩, h4⟩, h5⟩, h6⟩
  · exact ⟨⟨⟨⟨⟨h1, h2⟩, by decide⟩, h4⟩, h5⟩, h6⟩
  · exact ⟨⟨⟨⟨⟨h1, h2⟩, by simp [Fr.inB, v0, v1]⟩, h4⟩, h5⟩, h6⟩
  · refine ⟨⟨⟨⟨⟨h1, h2⟩, h3⟩, h4⟩, h5⟩, ?_⟩
    simp only [Fr.insideB, ht, if_true, Fr.hasB] at h6 ⊢
    exact h6
  · refine ⟨⟨⟨⟨⟨h1, h2⟩, h3⟩, h4⟩, h5⟩, ?_⟩
    simp only [Fr.insideB, ht, if_true, Fr.hasB] at h6 ⊢
    exact h6
  · refine ⟨⟨⟨⟨⟨h1, h2⟩, h3⟩, h4⟩, h5⟩, ?_⟩
    have hb : (s.pro == 6 || s.pro == 17) = true := by simpa using hp
    simp only [Fr.insideB, ht, if_true, Fr.hasB, hb, Bool.and_eq_true] at h6 ⊢
    exact ⟨⟨h6.1.1, by simp [Fr.inB, v0, v1]⟩, h6.2⟩
  · refine ⟨⟨⟨⟨⟨h1, h2⟩, h3⟩, h4⟩, h5⟩, ?_⟩
    have hb : (s.pro == 6 || s.pro == 17) = true := by simpa using hp
    simp only [Fr.insideB, ht, if_true, Fr.hasB, hb, Bool.and_eq_true] at h6 ⊢
    exact ⟨h6.1, by simp [Fr.inB, v0, v1]⟩
theorem change_same (s : Sn) (a : A) (ha : rightB a = true) : (changeV s a).inp = s.inp ∧ (changeV s a).data = s.data := by
  rcases change_ways s a ha with e | e | e | ⟨v, v0, v1, e⟩ | ⟨ht, v, v0, v1, e⟩ | ⟨ht, v, v0, v1, e⟩ | ⟨ht, hp, v, v0, v1, e⟩ | ⟨ht, hp, v, v0, v1, e⟩ <;> rw [e] <;> exact ⟨rfl, rfl⟩
theorem change_wf (s : Sn) (a : A) (ha : rightB a = true) (h : Wf2 s) : Fr.Wf (pkOf (changeV s a)) := by
  have g := h.wf
  rcases change_ways s a ha with e | e | e | ⟨v, v0, v1, e⟩ | ⟨ht, v, v0, v1, e⟩ | ⟨ht, v, v0, v1, e⟩ | ⟨ht, hp, v, v0, v1, e⟩ | ⟨ht, hp, v, v0, v1, e⟩ <;> rw [e]
  all_goals first
    | exact ⟨h.to0, h.to1, h.fr0, h.fr1, g.a0, g.a1, g.b0, g.b1⟩
    | exact ⟨h.to0, h.to1, h.fr0, h.fr1, v0, by simp only; omega, g.b0, g.b1⟩
    | exact ⟨h.to0, h.to1, h.fr0, h.fr1, g.a0, g.a1, v0, by simp only; omega⟩
theorem bytes_ok (p : Fr.Pk) (hs : p.data.size ≤ 1000) : (Fr.bytesE p = 0 ↔ Fr.rightB p = true) := by
  have := Fr.aheadV_le p
  unfold Fr.bytesE
  constructor
  · intro h
    split at h
    · assumption
    · cases h
  · intro h
    rw [if_pos h, if_pos (by omega)]
end Go.Proofs.YtmlonfchbkmbcabDoor
