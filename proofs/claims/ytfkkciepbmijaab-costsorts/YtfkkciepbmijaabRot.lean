/-
  Merging two parts that are in order, by turning what stands between them: the plain mathematics (nothing of the program).
-/
import Derived.Test.YtfkkciepbmijaabSrt
namespace Go.Proofs.Ytfkkciepbmijaab
section
variable {κ : A → Int}

theorem at_append (x y : List A) (i : Nat) : at' (x ++ y) i = if i < x.length then at' x i else at' y (i - x.length) := by
  unfold at'
  simp only [List.getD_eq_getElem?_getD, List.getElem?_append]
  split <;> rfl
theorem at_take (d : List A) (e i : Nat) (h : i < e) : at' (d.take e) i = at' d i := by
  unfold at'
  simp only [List.getD_eq_getElem?_getD, List.getElem?_take, if_pos h]
theorem at_drop (d : List A) (m i : Nat) : at' (d.drop m) i = at' d (m + i) := by
  unfold at'
  simp only [List.getD_eq_getElem?_getD, List.getElem?_drop]
def rot (s m e : Nat) (d : List A) : List A := d.take s ++ ((d.take e).drop m ++ ((d.take m).drop s ++ d.drop e))
theorem rot_parts (s m e : Nat) (d : List A) (h1 : s ≤ m) (h2 : m ≤ e) : d = d.take s ++ ((d.take m).drop s ++ ((d.take e).drop m ++ d.drop e)) := by
  have a1 : (d.take m).take s = d.take s := by rw [List.take_take, Nat.min_eq_left h1]
  have a2 : (d.take e).take m = d.take m := by rw [List.take_take, Nat.min_eq_left h2]
  have b1 : d.take s ++ (d.take m).drop s = d.take m := by rw [← a1]; exact List.take_append_drop _ _
  have b2 : d.take m ++ (d.take e).drop m = d.take e := by rw [← a2]; exact List.take_append_drop _ _
  rw [← List.append_assoc, ← List.append_assoc, b1, b2, List.take_append_drop]
theorem rot_len (s m e : Nat) (d : List A) (h1 : s ≤ m) (h2 : m ≤ e) (h3 : e ≤ d.length) : (rot s m e d).length = d.length := by
  unfold rot
  simp only [List.length_append, List.length_take, List.length_drop]
  omega
theorem rot_at (s m e : Nat) (d : List A) (h1 : s ≤ m) (h2 : m ≤ e) (h3 : e ≤ d.length) (t : Nat) :
    at' (rot s m e d) t = if t < s then at' d t else if t < s + (e - m) then at' d (t + (m - s)) else if t < e then at' d (t - (e - m)) else at' d t := by
  unfold rot
  have l1 : (d.take s).length = s := by rw [List.length_take]; omega
  have l2 : ((d.take e).drop m).length = e - m := by rw [List.length_drop, List.length_take]; omega
  have l3 : ((d.take m).drop s).length = m - s := by rw [List.length_drop, List.length_take]; omega
  rw [at_append, at_append, at_append, l1, l2, l3]
  by_cases c1 : t < s
  · rw [if_pos c1, if_pos c1, at_take _ _ _ c1]
  · rw [if_neg c1, if_neg c1]
    by_cases c2 : t < s + (e - m)
    · rw [if_pos c2, if_pos (by omega), at_drop, at_take _ _ _ (by omega)]
      congr 1; omega
    · rw [if_neg c2, if_neg (by omega)]
      by_cases c3 : t < e
      · rw [if_pos c3, if_pos (by omega), at_drop, at_take _ _ _ (by omega)]
        congr 1; omega
      · rw [if_neg c3, if_neg (by omega), at_drop]
        congr 1; omega
theorem mem_seg {d : List A} {s e : Nat} (he : e ≤ d.length) {x : A} (h : x ∈ (d.take e).drop s) : ∃ t, s ≤ t ∧ t < e ∧ at' d t = x := by
  obtain ⟨i, hi, hx⟩ := List.mem_iff_getElem.1 h
  have hl : ((d.take e).drop s).length = e - s := by rw [List.length_drop, List.length_take]; omega
  refine ⟨s + i, by omega, by omega, ?_⟩
  rw [← hx, ← at_get _ i hi, at_drop, at_take _ _ _ (by omega)]
theorem seg_mem {d : List A} {s e : Nat} (he : e ≤ d.length) {t : Nat} (h1 : s ≤ t) (h2 : t < e) : at' d t ∈ (d.take e).drop s := by
  have hl : ((d.take e).drop s).length = e - s := by rw [List.length_drop, List.length_take]; omega
  have hi : t - s < ((d.take e).drop s).length := by omega
  have := List.getElem_mem hi
  rw [← at_get _ _ hi, at_drop, at_take _ _ _ (by omega), show s + (t - s) = t by omega] at this
  exact this
theorem fc_none {l : List A} {c : Int} (h : ∀ x ∈ l, κ x ≠ c) : fc κ c l = [] := by
  unfold fc
  rw [List.filter_eq_nil_iff]
  intro x hx
  simpa using h x hx
/-- What is turned is not alike. -/
theorem rot_rel (s m e : Nat) (d : List A) (h1 : s ≤ m) (h2 : m ≤ e) (h3 : e ≤ d.length) (hk : ∀ p q, s ≤ p → p < m → m ≤ q → q < e → ka κ d q < ka κ d p) : Rel κ s e d (rot s m e d) := by
  refine ⟨rot_len s m e d h1 h2 h3, fun t ht => ?_, fun c => ?_⟩
  · rw [rot_at s m e d h1 h2 h3]
    by_cases c1 : t < s
    · rw [if_pos c1]
    · rw [if_neg c1, if_neg (by omega), if_neg (by omega)]
  · conv => rhs; rw [rot_parts s m e d h1 h2]
    unfold rot fc
    simp only [List.filter_append]
    congr 1
    simp only [← List.append_assoc]
    congr 1
    show fc κ c _ ++ fc κ c _ = fc κ c _ ++ fc κ c _
    by_cases hc : ∃ x ∈ (d.take m).drop s, κ x = c
    · obtain ⟨x, hx, hxc⟩ := hc
      obtain ⟨p, p1, p2, p3⟩ := mem_seg (by omega) hx
      have : fc κ c ((d.take e).drop m) = [] := fc_none fun y hy hyc => by
        obtain ⟨q, q1, q2, q3⟩ := mem_seg h3 hy
        have := hk p q p1 p2 q1 q2
        unfold ka at this
        rw [p3, q3, hxc, hyc] at this
        omega
      rw [this, List.nil_append, List.append_nil]
    · have : fc κ c ((d.take m).drop s) = [] := fc_none fun x hx hxc => hc ⟨x, hx, hxc⟩
      rw [this, List.nil_append, List.append_nil]
theorem take_eq {d d' : List A} {a : Nat} (hl : d'.length = d.length) (h : ∀ i, i < a → at' d' i = at' d i) : d'.take a = d.take a := by
  apply List.ext_getElem (by simp [hl])
  intro i h1 h2
  have i1 : i < a ∧ i < d'.length := by rw [List.length_take] at h1; omega
  rw [List.getElem_take, List.getElem_take, ← at_get d' i i1.2, ← at_get d i (by omega)]
  exact h i i1.1
theorem drop_eq {d d' : List A} {b : Nat} (hl : d'.length = d.length) (h : ∀ i, b ≤ i → at' d' i = at' d i) : d'.drop b = d.drop b := by
  apply List.ext_getElem (by simp [hl])
  intro i h1 h2
  have i1 : b + i < d'.length := by rw [List.length_drop] at h1; omega
  rw [List.getElem_drop, List.getElem_drop, ← at_get d' _ i1, ← at_get d _ (by omega)]
  exact h _ (by omega)
theorem seg_parts (d : List A) (a b : Nat) (h : a ≤ b) : d = d.take a ++ ((d.take b).drop a ++ d.drop b) := by
  have a1 : (d.take b).take a = d.take a := by rw [List.take_take, Nat.min_eq_left h]
  have b1 : d.take a ++ (d.take b).drop a = d.take b := by rw [← a1]; exact List.take_append_drop _ _
  rw [← List.append_assoc, b1, List.take_append_drop]
/-- What stands in a part that was put in order stood there. -/
theorem Rel.from {a b : Nat} {d d' : List A} (h : Rel κ a b d d') (hab : a ≤ b) (hb : b ≤ d.length) {t : Nat} (h1 : a ≤ t) (h2 : t < b) : ∃ p, a ≤ p ∧ p < b ∧ at' d p = at' d' t := by
  have ht := take_eq (a := a) h.len fun i hi => h.out i (.inl hi)
  have hd := drop_eq (b := b) h.len fun i hi => h.out i (.inr hi)
  have hc' : ∀ c, (((d'.take b).drop a).filter fun x => decide (κ x = c)) = ((d.take b).drop a).filter fun x => decide (κ x = c) := fun c => by
    have hc := h.cl c
    rw [seg_parts d a b hab, seg_parts d' a b hab, ht, hd] at hc
    unfold fc at hc
    simp only [List.filter_append] at hc
    exact List.append_cancel_right (List.append_cancel_left hc)
  have hm := seg_mem (d := d') (by rw [h.len]; exact hb) h1 h2
  have : at' d' t ∈ ((d'.take b).drop a).filter fun x => decide (κ x = κ (at' d' t)) := List.mem_filter.2 ⟨hm, by simp⟩
  rw [hc'] at this
  exact mem_seg hb (List.mem_filter.1 this).1
theorem sym_done {a mid b : Nat} {d1 d2 d3 : List A} (ha : a ≤ mid) (hm : mid ≤ b) (hb : b ≤ d1.length) (h12 : Rel κ a mid d1 d2) (h23 : Rel κ mid b d2 d3) (s2 : Srt κ a mid d2) (s3 : Srt κ mid b d3)
    (cross : ∀ p q, a ≤ p → p < mid → mid ≤ q → q < b → ka κ d1 p ≤ ka κ d1 q) : Rel κ a b d1 d3 ∧ Srt κ a b d3 := by
  refine ⟨(h12.mono (Nat.le_refl _) hm).trans (h23.mono ha (Nat.le_refl _)), fun i j h1 h2 h3 => ?_⟩
  by_cases c1 : j < mid
  · rw [h23.ka i (by omega), h23.ka j (by omega)]
    exact s2 i j h1 h2 c1
  · by_cases c2 : mid ≤ i
    · exact s3 i j c2 h2 h3
    · rw [h23.ka i (by omega)]
      obtain ⟨p, p1, p2, p3⟩ := h12.from ha (by omega) h1 (show i < mid by omega)
      obtain ⟨q, q1, q2, q3⟩ := h23.from hm (by rw [h12.len]; exact hb) (show mid ≤ j by omega) h3
      have := cross p q p1 p2 q1 q2
      have e : ka κ d2 q = ka κ d1 q := h12.ka q (by omega)
      unfold ka at this e ⊢
      rw [← q3, e, ← p3]
      exact this
/-- What stands behind the turn. -/
structure Turned (κ : A → Int) (a start m mid end' b : Nat) (d d1 : List A) : Prop where
  rel : Rel κ a b d d1
  s1 : Srt κ a start d1
  s2 : Srt κ start mid d1
  s3 : Srt κ mid end' d1
  s4 : Srt κ end' b d1
  cross : ∀ p q, a ≤ p → p < mid → mid ≤ q → q < b → ka κ d1 p ≤ ka κ d1 q
theorem turned {a start m mid end' b : Nat} {d : List A} (h1 : a ≤ start) (h2 : start ≤ m) (h3 : m ≤ end') (h4 : end' ≤ b) (h5 : b ≤ d.length) (h6 : end' + start = mid + m) (hm1 : start ≤ mid) (sa : Srt κ a m d) (sb : Srt κ m b d)
    (f2 : start < m → m < end' → ka κ d (end' - 1) < ka κ d start) (f3 : a < start → end' < b → ka κ d (start - 1) ≤ ka κ d end') : Turned κ a start m mid end' b d (rot start m end' d) := by
  have hk : ∀ p q, start ≤ p → p < m → m ≤ q → q < end' → ka κ d q < ka κ d p := fun p q g1 g2 g3 g4 => by
    have x1 := f2 (by omega) (by omega)
    have x2 : ka κ d start ≤ ka κ d p := by
      by_cases e : start = p
      · subst e; exact Int.le_refl _
      · exact sa start p h1 (by omega) g2
    have x3 : ka κ d q ≤ ka κ d (end' - 1) := by
      by_cases e : q = end' - 1
      · subst e; exact Int.le_refl _
      · exact sb q (end' - 1) g3 (by omega) (by omega)
    omega
  have hl3 : end' ≤ d.length := by omega
  have R := rot_rel (κ := κ) start m end' d h2 h3 hl3 hk
  have K : ∀ t, ka κ (rot start m end' d) t = if t < start then ka κ d t else if t < mid then ka κ d (t + (m - start)) else if t < end' then ka κ d (t - (end' - m)) else ka κ d t := fun t => by
    have e := rot_at start m end' d h2 h3 hl3 t
    have em : start + (end' - m) = mid := by omega
    rw [em] at e
    unfold ka
    rw [e]
    by_cases c1 : t < start
    · rw [if_pos c1, if_pos c1]
    · rw [if_neg c1, if_neg c1]
      by_cases c2 : t < mid
      · rw [if_pos c2, if_pos c2]
      · rw [if_neg c2, if_neg c2]
        by_cases c3 : t < end'
        · rw [if_pos c3, if_pos c3]
        · rw [if_neg c3, if_neg c3]
  have le_a : ∀ p q, a ≤ p → p ≤ q → q < m → ka κ d p ≤ ka κ d q := fun p q g1 g2 g3 => by
    by_cases e : p = q
    · subst e; exact Int.le_refl _
    · exact sa p q g1 (by omega) g3
  have le_b : ∀ p q, m ≤ p → p ≤ q → q < b → ka κ d p ≤ ka κ d q := fun p q g1 g2 g3 => by
    by_cases e : p = q
    · subst e; exact Int.le_refl _
    · exact sb p q g1 (by omega) g3
  refine ⟨R.mono h1 h4, fun i j g1 g2 g3 => ?_, fun i j g1 g2 g3 => ?_, fun i j g1 g2 g3 => ?_, fun i j g1 g2 g3 => ?_, fun p q g1 g2 g3 g4 => ?_⟩
  · rw [K i, K j, if_pos (by omega), if_pos (by omega)]
    exact le_a i j g1 (by omega) (by omega)
  · rw [K i, K j, if_neg (by omega), if_pos (by omega), if_neg (by omega), if_pos (by omega)]
    exact le_b _ _ (by omega) (by omega) (by omega)
  · rw [K i, K j, if_neg (by omega), if_neg (by omega), if_pos (by omega), if_neg (by omega), if_neg (by omega), if_pos (by omega)]
    exact le_a _ _ (by omega) (by omega) (by omega)
  · rw [K, K, if_neg (by omega), if_neg (by omega), if_neg (by omega), if_neg (by omega), if_neg (by omega), if_neg (by omega)]
    exact le_b _ _ (by omega) (by omega) (by omega)
  · rw [K p, K q]
    by_cases c1 : p < start
    · rw [if_pos c1, if_neg (by omega), if_neg (by omega)]
      by_cases c2 : q < end'
      · rw [if_pos c2]
        exact le_a _ _ g1 (by omega) (by omega)
      · rw [if_neg c2]
        have x := f3 (by omega) (by omega)
        have x1 := le_a p (start - 1) g1 (by omega) (by omega)
        have x2 := le_b end' q (by omega) (by omega) g4
        omega
    · rw [if_neg c1, if_pos g2, if_neg (by omega), if_neg (by omega)]
      by_cases c2 : q < end'
      · rw [if_pos c2]
        exact Int.le_of_lt (hk _ _ (by omega) (by omega) (by omega) (by omega))
      · rw [if_neg c2]
        exact le_b _ _ (by omega) (by omega) (by omega)
end
end Go.Proofs.Ytfkkciepbmijaab
