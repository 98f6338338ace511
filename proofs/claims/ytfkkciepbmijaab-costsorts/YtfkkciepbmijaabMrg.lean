/-
  An action set out of actions: the last one of each class, in order: the plain mathematics (nothing of the program).
-/
import Derived.Test.YtfkkciepbmijaabRot
namespace Go.Proofs.Ytfkkciepbmijaab
section
variable {κ : A → Int}

/-- In order, and of each number the same: then they are one. -/
theorem order_one : ∀ (l l' : List A), l.Pairwise (fun x y => κ x ≤ κ y) → l'.Pairwise (fun x y => κ x ≤ κ y) → (∀ c, fc κ c l' = fc κ c l) → l' = l
  | [], l', _, _, h => by
    cases l' with
    | nil => rfl
    | cons y t =>
      have := h (κ y)
      simp [fc] at this
  | x :: t, l', h1, h2, h => by
    cases l' with
    | nil =>
      have := h (κ x)
      simp [fc] at this
    | cons y t' =>
      have hx : x ∈ fc κ (κ x) (y :: t') := by rw [h (κ x)]; simp [fc]
      have hy : y ∈ fc κ (κ y) (x :: t) := by rw [← h (κ y)]; simp [fc]
      have mx := (List.mem_filter.1 hx).1
      have my := (List.mem_filter.1 hy).1
      have k1 : κ y ≤ κ x := by
        rcases List.mem_cons.1 mx with e | e
        · rw [e]; exact Int.le_refl _
        · exact (List.pairwise_cons.1 h2).1 x e
      have k2 : κ x ≤ κ y := by
        rcases List.mem_cons.1 my with e | e
        · rw [e]; exact Int.le_refl _
        · exact (List.pairwise_cons.1 h1).1 y e
      have hk : κ y = κ x := by omega
      have hh := h (κ x)
      simp only [fc, List.filter_cons, hk, decide_true, if_true] at hh
      obtain ⟨e1, e2⟩ := List.cons.inj hh
      subst e1
      have ht : ∀ c, fc κ c t' = fc κ c t := fun c => by
        have hc := h c
        simp only [fc, List.filter_cons] at hc
        by_cases q : κ y = c
        · simp only [q, decide_true, if_true] at hc
          exact (List.cons.inj hc).2
        · simp only [q, decide_false, Bool.false_eq_true, if_false] at hc
          exact hc
      rw [order_one t t' (List.pairwise_cons.1 h1).2 (List.pairwise_cons.1 h2).2 ht]
theorem srt_pairwise {d : List A} (h : Srt κ 0 d.length d) : d.Pairwise (fun x y => κ x ≤ κ y) := by
  rw [List.pairwise_iff_getElem]
  intro i j hi hj hij
  have := h i j (Nat.zero_le _) hij hj
  unfold ka at this
  rw [at_get _ _ hi, at_get _ _ hj] at this
  exact this

/-- One more, behind all that are not behind it. -/
def ins (κ : A → Int) (x : A) : List A → List A
  | [] => [x]
  | y :: t => if κ y ≤ κ x then y :: ins κ x t else x :: y :: t
def isort (κ : A → Int) (l : List A) : List A := l.foldl (fun acc x => ins κ x acc) []
theorem mem_ins (x : A) : ∀ (l : List A) (z : A), z ∈ ins κ x l ↔ z = x ∨ z ∈ l
  | [], z => by simp [ins]
  | y :: t, z => by
    unfold ins
    split
    · rw [List.mem_cons, mem_ins x t z, List.mem_cons]
      constructor
      · rintro (h | h | h) <;> simp [h]
      · rintro (h | h | h) <;> simp [h]
    · rw [List.mem_cons]
theorem ins_sorted (x : A) : ∀ (l : List A), l.Pairwise (fun x y => κ x ≤ κ y) → (ins κ x l).Pairwise (fun x y => κ x ≤ κ y)
  | [], _ => by simp [ins]
  | y :: t, h => by
    unfold ins
    obtain ⟨h1, h2⟩ := List.pairwise_cons.1 h
    split
    · next hk =>
      refine List.pairwise_cons.2 ⟨fun z hz => ?_, ins_sorted x t h2⟩
      rcases (mem_ins x t z).1 hz with e | e
      · rw [e]; exact hk
      · exact h1 z e
    · next hk =>
      refine List.pairwise_cons.2 ⟨fun z hz => ?_, h⟩
      rcases List.mem_cons.1 hz with e | e
      · rw [e]; omega
      · have := h1 z e; omega
theorem ins_fc (x : A) (c : Int) : ∀ (l : List A), l.Pairwise (fun x y => κ x ≤ κ y) → fc κ c (ins κ x l) = fc κ c l ++ fc κ c [x]
  | [], _ => by simp [ins]
  | y :: t, h => by
    unfold ins
    obtain ⟨h1, h2⟩ := List.pairwise_cons.1 h
    split
    · have ih := ins_fc x c t h2
      simp only [fc, List.filter_cons] at ih ⊢
      rw [ih]
      split <;> simp
    · next hk =>
      by_cases q : κ x = c
      · have e : fc κ c (y :: t) = [] := fc_none fun z hz => by
          rcases List.mem_cons.1 hz with e | e
          · rw [e]; omega
          · have := h1 z e; omega
        rw [e]
        show fc κ c (x :: y :: t) = _
        rw [show x :: y :: t = [x] ++ (y :: t) from rfl]
        unfold fc at e ⊢
        rw [List.filter_append, e]
        simp
      · have e : fc κ c [x] = [] := fc_none fun z hz => by rw [List.mem_singleton.1 hz]; exact q
        rw [e, List.append_nil]
        show fc κ c (x :: y :: t) = _
        simp only [fc, List.filter_cons, q, decide_false, Bool.false_eq_true, if_false]
theorem foldl_ins : ∀ (l acc : List A), acc.Pairwise (fun x y => κ x ≤ κ y) → (l.foldl (fun acc x => ins κ x acc) acc).Pairwise (fun x y => κ x ≤ κ y) ∧ ∀ c, fc κ c (l.foldl (fun acc x => ins κ x acc) acc) = fc κ c acc ++ fc κ c l
  | [], acc, h => ⟨h, fun c => by simp [fc]⟩
  | x :: t, acc, h => by
    obtain ⟨i1, i2⟩ := foldl_ins t (ins κ x acc) (ins_sorted x acc h)
    refine ⟨i1, fun c => ?_⟩
    rw [List.foldl_cons, i2 c, ins_fc x c acc h, List.append_assoc]
    congr 1
    unfold fc
    rw [← List.filter_append]
    rfl
theorem isort_sorted (l : List A) : (isort κ l).Pairwise (fun x y => κ x ≤ κ y) := (foldl_ins l [] List.Pairwise.nil).1
theorem isort_fc (l : List A) (c : Int) : fc κ c (isort κ l) = fc κ c l := by
  have := (foldl_ins (κ := κ) l [] List.Pairwise.nil).2 c
  unfold isort
  simpa [fc] using this
/-- What a stable sort leaves. -/
theorem sorted_is {d d' : List A} (h : Cl κ d d') (s : Srt κ 0 d'.length d') : d' = isort κ d :=
  order_one _ _ (isort_sorted d) (srt_pairwise s) fun c => by rw [h c, isort_fc]

/-- Of what is in order the last one of each. -/
def lastOf (κ : A → Int) : List A → List A
  | [] => []
  | [x] => [x]
  | x :: y :: t => if κ x = κ y then lastOf κ (y :: t) else x :: lastOf κ (y :: t)
def lastL (l : List A) : List A := l.getLast?.toList
theorem lastL_append (l : List A) (x : A) : lastL (l ++ [x]) = [x] := by simp [lastL]
theorem lastL_last (l m : List A) : lastL (lastL l ++ m) = lastL (l ++ m) := by
  by_cases h : m = []
  · subst h
    rw [List.append_nil, List.append_nil]
    unfold lastL
    cases l.getLast? <;> rfl
  · have e : ∀ k : List A, lastL (k ++ m) = lastL m := fun k => by
      unfold lastL
      rw [List.getLast?_append]
      cases hm : m.getLast? with
      | none => exact absurd (List.getLast?_eq_none_iff.1 hm) h
      | some x => rfl
    rw [e, e]
theorem lastL_cons (x : A) (l : List A) (h : l ≠ []) : lastL (x :: l) = lastL l := by
  unfold lastL
  cases l with
  | nil => exact absurd rfl h
  | cons y t => rw [List.getLast?_cons_cons]
theorem lastOf_mem : ∀ (l : List A) (z : A), z ∈ lastOf κ l → z ∈ l
  | [], z, h => by simp [lastOf] at h
  | [x], z, h => by simpa [lastOf] using h
  | x :: y :: t, z, h => by
    unfold lastOf at h
    split at h
    · exact List.mem_cons_of_mem _ (lastOf_mem (y :: t) z h)
    · rcases List.mem_cons.1 h with e | e
      · rw [e]; exact List.mem_cons_self
      · exact List.mem_cons_of_mem _ (lastOf_mem (y :: t) z e)
theorem lastOf_order : ∀ (l : List A), l.Pairwise (fun x y => κ x ≤ κ y) → (lastOf κ l).Pairwise (fun x y => κ x < κ y) ∧ ∀ c, fc κ c (lastOf κ l) = lastL (fc κ c l)
  | [], _ => ⟨by simp [lastOf], fun c => by simp [lastOf, lastL]⟩
  | [x], _ => ⟨by simp [lastOf], fun c => by
      by_cases q : κ x = c <;> simp [lastOf, lastL, fc, q]⟩
  | x :: y :: t, h => by
    obtain ⟨h1, h2⟩ := List.pairwise_cons.1 h
    obtain ⟨i1, i2⟩ := lastOf_order (y :: t) h2
    unfold lastOf
    split
    · next hk =>
      refine ⟨i1, fun c => ?_⟩
      rw [i2 c]
      by_cases q : κ x = c
      · have e : fc κ c (x :: y :: t) = x :: fc κ c (y :: t) := by simp [fc, q]
        have e2 : fc κ c (y :: t) = y :: fc κ c t := by simp [fc, ← hk, q]
        rw [e, lastL_cons _ _ (by rw [e2]; simp)]
      · have e : fc κ c (x :: y :: t) = fc κ c (y :: t) := by simp [fc, List.filter_cons, q]
        rw [e]
    · next hk =>
      have hlt : ∀ z ∈ y :: t, κ x < κ z := fun z hz => by
        have a1 := h1 y List.mem_cons_self
        rcases List.mem_cons.1 hz with e | e
        · rw [e]; omega
        · have := (List.pairwise_cons.1 h2).1 z e; omega
      refine ⟨List.pairwise_cons.2 ⟨fun z hz => hlt z (lastOf_mem _ z hz), i1⟩, fun c => ?_⟩
      by_cases q : κ x = c
      · have n1 : fc κ c (y :: t) = [] := fc_none fun z hz => by have := hlt z hz; omega
        have n2 : fc κ c (lastOf κ (y :: t)) = [] := by rw [i2 c, n1]; rfl
        have e1 : fc κ c (x :: lastOf κ (y :: t)) = x :: fc κ c (lastOf κ (y :: t)) := by simp [fc, q]
        have e2 : fc κ c (x :: y :: t) = x :: fc κ c (y :: t) := by simp [fc, q]
        rw [e1, e2, n1, n2]
        rfl
      · have e1 : fc κ c (x :: lastOf κ (y :: t)) = fc κ c (lastOf κ (y :: t)) := by simp [fc, q]
        have e2 : fc κ c (x :: y :: t) = fc κ c (y :: t) := by simp [fc, List.filter_cons, q]
        rw [e1, e2, i2 c]
theorem lt_le {l : List A} (h : l.Pairwise (fun x y => κ x < κ y)) : l.Pairwise (fun x y => κ x ≤ κ y) := h.imp fun h => Int.le_of_lt h
end
end Go.Proofs.Ytfkkciepbmijaab
